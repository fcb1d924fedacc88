/-
 AbHdl TmPlA TmPlB TmPlC TmPlD KbMath KbMath2 KbMath3 OrMath KbSc KbFns KbFns2 KbFns3 KbFns4 OrFns1 ClMath
-/
import Derived.Test.YtglmoficcjphaaaGreatMg8
import Derived.Test.YtglmoficcjphaaaGreatMg2
import Derived.Test.YtglmoficcjphaaaGreatMg4
import Derived.Test.YtglmoficcjphaaaGreatMg3
namespace Go.Proofs.YtglmoficcjphaaaGreat
open Go.RowKit
set_option linter.unusedVariables false
set_option linter.unusedSimpArgs false
def a4B:Value→Nat→Value
 | .slice ao _ cap,len => .slice ao len cap
 | v,_=>v
def b3q (P:Program) (f:FuncId) (pre:AS) (n1 n2:Nat) (args:Value→Value→List AV) (r:Value→Value→AV) (post:AS):Prop:=
 a7S P f∧∀ (U:UX) (w:World) (hv:Nat→Value) (a0:Act) (vs:List Value),(∀ k v,U.f k=some v→l8 (kO pre) k=true)→SimG w U 0 pre a0 w (fun _ _=>False) hv→AVReps (Us w U (fun _ _=>False)) w hv (a8 pre) (args (hv n1) (hv n2)) vs →
  Calls P f vs.toArray w fun e w'=>∃ v D' hv' a',e = .returned v∧SimG w U 0 post a' w' D' hv'∧AVRep (Us w U D') w' hv' (a8 post) (r (hv n1) (hv n2)) v
section
variable {P:Program} {w0:World} {U0:UX} {nt:Nat} {ops:Array Oper} {o:Oper} {S:Nat→Option AV} {gs:List Nat} {d:Nat} {s:AS} {a:Act} {w:World} {D:Nat→Nat→Prop} {hv:Nat→Value}
theorem b5p (d1 n1 d2 n2 : Nat) {f : FuncId} {fn : Func} {c : Code} {pre post : AS} {args : Value → Value → List AV} {r : Value → Value → AV} (hf : P.funcs[f]? = some fn) (hn : fn.ntmps = nt) (hname : (fn.name == "runtime.NumGoroutine") = false) (hb : fn.body = some c) (hl : ∀ v1 v2, Nat.ble (args v1 v2).length nt = true) (hdd : (Nat.blt d1 nt && Nat.blt d2 nt) = true) (hnn : (Nat.ble 200000 n1 && Nat.blt n1 450000 && (Nat.ble 200000 n2 && Nat.blt n2 450000)) = true) (hnt : Nat.blt nt 100000 = true) (hpre : (kO pre).all (Nat.ble 100000) = true) (hpost : (kO post).all (Nat.ble 100000) = true)
  (h:∀ (v1 v2:Value) (w:World) (U:UX),(∀ k v,U.f k=some v→l8 (kO pre) k=true)→AWp P w U nt c (fun e s'=>(e = .normal∨e = .ret)∧b9X P w U nt fn s' (r v1 v2) post) ((d1,.hdl v1 n1)::(d2,.hdl v2 n2)::(F6 (args v1 v2) 0++pre))):b3q P f pre n1 n2 args r post:=by
 refine ⟨C6 hf hname (by rw [hb];rfl),fun U w hv a0 vs hU hpS hargs=>?_⟩
 have hlen:=hargs.len
 refine calls_of_wp hf hb ?_
 have hle:=Nat.le_of_ble_eq_true (hl (hv n1) (hv n2))
 have hnt:=bL hnt
 have hlow:∀ {k av},look pre k=some av→100000≤k:=fun {k av} h1=>by
  rw [List.all_eq_true] at hpre
  exact Nat.le_of_ble_eq_true (hpre k (d8 h1))
 have hlk:∀ {k},100000≤k→look (F6 (args (hv n1) (hv n2)) 0++pre) k=look pre k:=fun {k} h1=>by
  rw [a9]
  cases h2:look (F6 (args (hv n1) (hv n2)) 0) k with
  | none=>rfl
  | some av =>
   obtain ⟨_,h3⟩:=x8 h2
   rw [Nat.sub_zero,List.getElem?_eq_none (by omega)] at h3
   cases h3
 have hlive:a8 (F6 (args (hv n1) (hv n2)) 0++pre)=a8 pre:=by
  funext n
  unfold a8 s7
  apply propext
  constructor
  ·rintro (h1 | ⟨e,h1,h2,h3⟩)
   ·exact .inl h1
   ·rw [hlk (by omega)] at h1;exact .inr ⟨e,h1,h2,h3⟩
  ·rintro (h1 | ⟨e,h1,h2,h3⟩)
   ·exact .inl h1
   ·exact .inr ⟨e,by rw [hlk (by omega)];exact h1,h2,h3⟩
 have hs0:SimG w U nt (F6 (args (hv n1) (hv n2)) 0++pre) { tmps:=vs.toArray++Array.replicate (fn.ntmps-vs.toArray.size) undef,defers:=[] } w (fun _ _=>False) hv:=by
  refine ⟨hpS.below,rfl,by simp [hn];omega,fun d av h1 h2=>?_,fun n o av h1 h2 h3 h4=>?_,fun n o o' av av' h1 h2=>?_,fun k av h1 h2=>?_,fun k av g h1 h2=>?_,fun k k' av av' g h1 h2 h3 h4=>?_,hpS.fix,fun b o hd=>hd.elim⟩
  ·rw [a9] at h1
   cases h3:look (F6 (args (hv n1) (hv n2)) 0) d with
   | none =>
    rw [h3] at h1
    have:=hlow h1
    omega
   | some av' =>
    rw [h3] at h1
    cases h1
    obtain ⟨_,h4⟩:=x8 h3
    rw [Nat.sub_zero] at h4
    obtain ⟨v,h6,h7⟩:=hargs.at h4
    have hdl:d<vs.length:=by
     rcases Nat.lt_or_ge d vs.length with h | h
     ·exact h
     ·rw [List.getElem?_eq_none h] at h6;cases h6
    rw [hlive]
    refine ⟨v,?_,h7⟩
    rw [Array.getElem?_append_left (by simpa using hdl)]
    simpa using h6
  ·rw [hlk (by unfold b9;omega)] at h1
   rw [hlk (by omega)] at h3
   rw [hlive]
   exact hpS.fld n o av h1 h2 h3 h4
  ·rw [hlk (by unfold b9;omega)] at h1 h2
   exact hpS.fdis n o o' av av' h1 h2
  ·rw [hlk h2.1] at h1;rw [hlive];exact hpS.obj k av h1 h2
  ·rw [hlk h2.1] at h1;exact hpS.blk k av g h1 h2
  ·rw [hlk h3.1] at h1;rw [hlk h4.1] at h2;exact hpS.disj k k' av av' g h1 h2 h3 h4
 simp only [Bool.and_eq_true] at hdd hnn
 have hk1:d1<nt:=bL hdd.1
 have hk2:d2<nt:=bL hdd.2
 have hr1:RN n1:=⟨Nat.le_of_ble_eq_true hnn.1.1,bL hnn.1.2⟩
 have hr2:RN n2:=⟨Nat.le_of_ble_eq_true hnn.2.1,bL hnn.2.2⟩
 have hs1:=hs0.know (d:=d2) (av := .hdl (hv n2) n2) (by omega) (Array.getElem?_eq_getElem (by rw [hs0.size];exact hk2)) ⟨hr2,rfl⟩
 have hs2:=hs1.know (d:=d1) (av := .hdl (hv n1) n1) (by omega) (Array.getElem?_eq_getElem (by rw [hs0.size];exact hk1)) ⟨hr1,rfl⟩
 have hs:Sim w U nt ((d1,.hdl (hv n1) n1)::(d2,.hdl (hv n2) n2)::(F6 (args (hv n1) (hv n2)) 0++pre)) { tmps:=vs.toArray++Array.replicate (fn.ntmps-vs.toArray.size) undef,defers:=[] } w:=⟨_,_,hs2⟩
 refine wp_mono ((h (hv n1) (hv n2) w U hU ⟨none,[]⟩ _ w hs).wp rfl (fun e a w ⟨s,_,h⟩=>h.df)) ?_
 rintro e a' w' ⟨s',⟨h1,s2,g1,g2,g3⟩,h3⟩
 obtain ⟨D',hv',h4⟩:=g1 a' w' h3
 obtain ⟨v,h5,h6⟩:=V5 h4 g2
 have hS:=h4.sub g3.sub
 have hlow2:∀ {k av},look post k=some av→100000≤k:=fun {k av} h1=>by
  rw [List.all_eq_true] at hpost
  exact Nat.le_of_ble_eq_true (hpost k (d8 h1))
 have hS0:SimG w U 0 post ⟨#[],[]⟩ w' D' hv':=⟨hS.below,rfl,rfl,fun d av h7 h8=>by have:=hlow2 h7;omega,hS.fld,hS.fdis,hS.obj,hS.blk,hS.disj,hS.fix,hS.dlt⟩
 rcases h1 with rfl | rfl
 ·exact ⟨h4.dfr,v,h5,v,D',hv',_,rfl,hS0,h6.move (fun _ _ _ h1 h2=>⟨h1,h2⟩) (fun _ h7=>h7.imp id fun ⟨e,he⟩=>⟨e,g3.sub _ _ he.1,he.2⟩) fun _=>rfl⟩
 ·exact ⟨h4.dfr,v,h5,v,D',hv',_,rfl,hS0,h6.move (fun _ _ _ h1 h2=>⟨h1,h2⟩) (fun _ h7=>h7.imp id fun ⟨e,he⟩=>⟨e,g3.sub _ _ he.1,he.2⟩) fun _=>rfl⟩
theorem b6Z (dh1 dh2:Nat) {f:FuncId} {xs:Array Operand} {ts:Array TypeId} {ar:Value→Value→List AV} {rr:Value→Value→AV} {pre post:AS} {n1 n2:Nat} {u1 u2:Value} (hg:Gd w0 U0 nt ops o gs S) (hd:o.dst=some d) (hn:Nat.blt d nt=true) (h5:Nat.blt d 100000=true)
  (ho:o.op = .call { callee := .value (.func f),args:=xs,argTypes:=ts }) (hc:b3q P f pre n1 n2 ar rr post) (hh1:S dh1=some (.hdl u1 n1)) (hh2:S dh2=some (.hdl u2 n2)) (hdh:(Nat.blt dh1 100000&&Nat.blt dh2 100000)=true) (hx:a6K S xs.toList=some (ar u1 u2)) (hp:SubS S pre) (hl:pre.all E2=true) (hq:post.all (F4 (kO post))=true) (hks:(kO pre).all (l8 (kO post))=true) (hr:a4o (kO post) (rr u1 u2)=true) (hnb:∀ k v,U0.f k=some v→l8 (kO post) k=true→l8 (kO pre) k=true) :
  AOp P w0 U0 nt ops o (gs++(rdl xs.toList++(kO pre++[dh1,dh2]))) (E0 (kO pre) (kO post) (kO post)) S ((d,rr u1 u2)::post):=by
 intro s hs hN a w ⟨D,hv,h⟩ Q K hK
 rw [if_pos (hg s (fun k hk=>hs k (List.mem_append_left _ hk)) a w D hv h)]
 have hargs:=a0C h (fun k hk=>hs k (List.mem_append_right _ (List.mem_append_left _ hk))) hx
 have hsub:Sub s pre:=fun k av h1=>(hs k (List.mem_append_right _ (List.mem_append_right _ (List.mem_append_left _ (d8 h1))))).trans (hp.look h1)
 obtain ⟨V,v1,v2,v3,v4,v5,v6⟩:=h.lend hsub hl
 obtain ⟨h1,h2⟩:=hc
 rw [Bool.and_eq_true] at hdh
 obtain ⟨_,_,hx1⟩:∃ v,a.tmps[dh1]?=some v∧RN n1∧hv n1=u1:=h.slot dh1 _ ((hs dh1 (by simp)).trans hh1) (bL hdh.1)
 obtain ⟨_,_,hx2⟩:∃ v,a.tmps[dh2]?=some v∧RN n2∧hv n2=u2:=h.slot dh2 _ ((hs dh2 (by simp)).trans hh2) (bL hdh.2)
 have h2:=fun V a0 vs q1 q2 q3=>h2 V w hv a0 vs q1 q2 q3
 rw [hx1.2,hx2.2] at h2
 have hcall:=h2 V ⟨#[],[]⟩ _ v1 v2 (hargs.imp fun c _ v hcv=>hcv.move v6 (fun _ h3=>h3.imp id fun ⟨e,he⟩=>⟨e,hsub _ _ he.1,he.2⟩) fun _=>rfl)
 have he:(execOp a.eval o).run P w = .ok (.enter f (xs.toList.map a.eval).toArray) w:=by
  have hf:a.eval (.func f) = .func (.func f) #[] #[]:=rfl
  have hen:=h1 (xs.map a.eval) w
  have harr:(xs.toList.map a.eval).toArray=xs.map a.eval:=by apply Array.ext';simp
  rw [harr]
  generalize a.eval=ρ at hf hen ⊢
  simp [execOp,ho,resolve,invoke,Deferred.ofValue,hf,hen]
 unfold Oper.wp
 rw [he,Oper.upon_enter]
 refine hcall.mono ?_
 rintro e w' ⟨v,D',hv',a',rfl,h6,h7⟩
 rw [hd]
 obtain ⟨D2,hv2,h8,h9⟩:=h.back hsub hl hq hks hN hnb v3 v4 v5 v2 h6
 exact hK _ _ ⟨D2,hv2,h8.put (bL hn) (bL h5) (h9.1 (rr u1 u2) v hr h7)⟩
theorem zbE {P:Program} {w0:World} {U0:UX} {nt:Nat} {ops:Array Oper} {o:Oper} {S:Nat→Option AV} {gs:List Nat} {d:Nat} {f:FuncId} {xs:Array Operand} {ts:Array TypeId} {ar:Value→Value→List AV} {rr:Value→Value→AV} {pre:AS} {post:AS} {n1:Nat} {n2:Nat} {u1:Value} {u2:Value} (dh1:Nat) (dh2:Nat) (p:Gd w0 U0 nt ops o gs S:=by exact gN rfl) (q:o.dst=some d:=by exact rfl) (r:Nat.blt d nt=true:=by exact rfl) (t:Nat.blt d 100000=true:=by exact rfl) (u:o.op = .call { callee := .value (.func f),args:=xs,argTypes:=ts }:=by exact rfl) (x:b3q P f pre n1 n2 ar rr post) (y:S dh1=some (.hdl u1 n1):=by exact rfl) (z:S dh2=some (.hdl u2 n2):=by exact rfl) (A:(Nat.blt dh1 100000&&Nat.blt dh2 100000)=true:=by exact rfl) (B:a6K S xs.toList=some (ar u1 u2):=by exact rfl) (C:SubS S pre:=by repeat (first | exact trivial | refine ⟨rfl,?_⟩)) (E:pre.all E2=true:=by first | rfl | kernel_rfl) (F:post.all (F4 (kO post))=true:=by first | rfl | kernel_rfl) (G:(kO pre).all (l8 (kO post))=true:=by first | rfl | kernel_rfl) (H:a4o (kO post) (rr u1 u2)=true:=by first | rfl | kernel_rfl) (hnb:∀ k v,U0.f k=some v→l8 (kO post) k=true→l8 (kO pre) k=true):AOp P w0 U0 nt ops o (gs++(rdl xs.toList++(kO pre++[dh1,dh2]))) (E0 (kO pre) (kO post) (kO post)) S ((d,rr u1 u2)::post):=b6Z dh1 dh2 p q r t u x y z A B C E F G H hnb
theorem b2J (nn:Nat) (hg:Gd w0 U0 nt ops o gs S) (hd:o.dst=some d) (hn:Nat.blt d nt=true) (h5:Nat.blt d 100000=true) {t e:TypeId} {len:Nat} {parts:Array (Nat×Operand)} {ie:TypeInfo} {z:Value} {cs:List CV} {sz:Nat} (ho:o.op = .buildSlice t len parts) (hu:P.underlying t=some (.slice e)) (hi:P.info? e=some ie) (hsz0:ie.size=sz) (hz:ie.zero=some z) (hdn:a4G parts.toList 0=true) (hx:Y3 S (parts.toList.map (·.2))=some cs) (hl:Nat.beq cs.length len=true) (hsz:a4J cs sz=true) (hp:Nat.blt 0 (len*sz)=true) (h24:Nat.ble (len*sz) 16777216=true) (hn2:(Nat.ble 200000 nn&&Nat.blt nn 400000)=true) :
  AOp P w0 U0 nt ops o (gs++rdl (parts.toList.map (·.2))) [(nn,[])] S [(d,.sl nn 0 len sz),(nn,.mrow e sz cs)]:=by
 subst hsz0
 intro s hs hN a w ⟨D,hv,h⟩ Q K hK
 rw [if_pos (hg s (fun k hk=>hs k (List.mem_append_left _ hk)) a w D hv h)]
 have hvv:=F8 h (fun k hk=>hs k (List.mem_append_right _ hk)) hx
 rw [List.map_map] at hvv
 have hlen:cs.length=len:=Nat.eq_of_beq_eq_true hl
 have hvl:=hvv.len
 have hpos:=bL hp
 have hs0:0<ie.size:=Nat.pos_of_ne_zero fun e=>by rw [e] at hpos;simp at hpos
 have hsizes:=Z2 hvv (sZ hsz)
 obtain ⟨vs,hvs⟩:∃ vs,vs=parts.toList.map (a.eval∘(·.2)):=⟨_,rfl⟩
 rw [←hvs] at hvv hvl hsizes
 obtain ⟨r,hf,hrs,hrk⟩:=Great.fill_dense hs0 vs 0 ((Array.range (len*ie.size)).map (z.cells[·% z.cells.size]!)) hsizes (by simp;rw [hvl,hlen];exact Nat.le_refl _)
 have hr:r.toList=(vs.map fun v=>v.cells.toList).flatten:=by
  apply List.ext_getElem?
  intro k
  rw [K8 hs0 _ (by intro v hv';rw [List.mem_map] at hv';obtain ⟨u,hu,rfl⟩:=hv';simpa using hsizes u hu)]
  have:=hrk k
  rw [←Array.getElem?_toList] at this
  simp only [Nat.zero_mul,Nat.zero_le,true_and,Nat.zero_add] at this
  rw [this]
  by_cases hk:k<vs.length*ie.size
  ·rw [if_pos hk]
   simp only [Nat.sub_zero,List.getElem?_map]
   cases vs[k / ie.size]?<;>simp
  ·rw [if_neg hk,Array.getElem?_eq_none (by simp;rw [←hlen,←hvl];omega)]
   rw [List.getElem?_map,List.getElem?_eq_none (by rw [Nat.le_div_iff_mul_le hs0];omega)]
   rfl
 have he:(execOp a.eval o).run P w = .ok (.value (.slice (some ⟨w.heap.size,0,none⟩) len len)) (w.alloc (.cells r e)):=by
  have h24':=Nat.le_of_ble_eq_true h24
  have hparts:(parts.map fun x=>(x.1,a.eval x.2)).toList=(vs.zipIdx 0).map fun x=>(x.2,x.1):=by
   rw [Array.toList_map,a0b hdn a.eval,hvs]
   rfl
  have:=run_buildSlice (P:=P) w t e len (parts.map fun x=>(x.1,a.eval x.2)) r ie z hu hi hz (by omega) (by omega) (by rw [hparts];exact hf)
  generalize a.eval=ρ at this ⊢
  simp [execOp,ho,this]
 unfold Oper.wp
 rw [he,Oper.upon_value,hd]
 have hrs':r.size=len*ie.size:=by rw [hrs];simp
 have hlm:len≤maxLen:=by
  have:=Nat.le_of_ble_eq_true h24
  have:len≤len*ie.size:=Nat.le_mul_of_pos_right _ hs0
  unfold maxLen;omega
 have hrn2:=rnB hn2
 have hown:=World.ownsRow_lit (e:=e) (size:=ie.size) (base:=w.heap.size) w r len (Nat.le_refl _) hlm hrs'
 have hkp:∀ b o u,Us w0 U0 D b o→w.cell? ⟨b,o,none⟩=some u→Us w0 U0 D b o∧(w.alloc (.cells r e)).cell? ⟨b,o,none⟩=some u:=fun b o u hu hc=>by
  refine ⟨hu,?_⟩
  have hlt:b<w.heap.size:=World.block_lt_of_cell? w _ hc
  rw [World.cell?_of_block (w:=w) ((bA (Below.refl w.heap.size w) (.cells r e)).block b hlt)]
  exact hc
 have hG:=h.newrow (avn := .mrow e ie.size cs) (v' := .slice (some ⟨w.heap.size,0,none⟩) len len) (D':=D) (X:=fun _=>False) (n:=nn) hrn2 (hN (nn,[]) (by simp)).nr (by simp) ⟨(bA (Below.refl w.heap.size w) (.cells r e)).os,(bA (Below.refl w.heap.size w) (.cells r e)).tape,(bA (Below.refl w.heap.size w) (.cells r e)).output,(bA (Below.refl w.heap.size w) (.cells r e)).size,fun b hb hx=>(bA (Below.refl w.heap.size w) (.cells r e)).block b hb⟩ (fun b hb=>hb.elim) (fun g hg=>by
   have hg:(Value.slice (some ⟨w.heap.size,0,none⟩) len len).ownBlock=some g:=hg
   refine ⟨.inr (hown.lt g hg).1,(hown.lt g hg).2,fun o _ hd=>?_⟩
   have:=(hown.lt g hg).1
   have:=h.dlt _ _ hd
   omega) (fun b o hd => .inl hd) (fun b o hd=>Nat.lt_of_lt_of_le (h.dlt _ _ hd) (bA (Below.refl w.heap.size w) (.cells r e)).size) hkp (fun hv lv=>by
   refine ⟨r.toList,?_,hs0,sZ hsz,?_⟩
   ·show (w.alloc (.cells r e)).ownsRow 0 e ie.size _ cs.length _
    rw [hlen]
    exact s8 hown (Nat.zero_le _)
   ·rw [hr];exact Sq.keep hkp (T5 hvv))
 refine hK _ _ ⟨_,_,hG.put (bL hn) (bL h5) ⟨RW.rn hrn2,?_⟩⟩
 show SlV ((fun x=>if x=nn then Value.slice (some ⟨w.heap.size,0,none⟩) len len else hv x) nn) 0 len ie.size _
 simp only [if_true]
 exact N2 rfl (Nat.le_refl _) (.inr ⟨_,rfl⟩)
theorem zbF {P:Program} {w0:World} {U0:UX} {nt:Nat} {ops:Array Oper} {o:Oper} {S:Nat→Option AV} {gs:List Nat} {d:Nat} {t:TypeId} {e:TypeId} {len:Nat} {parts:Array (Nat×Operand)} {ie:TypeInfo} {z:Value} {cs:List CV} {sz:Nat} (nn:Nat) (p:Gd w0 U0 nt ops o gs S:=by exact gN rfl) (q:o.dst=some d:=by exact rfl) (y:Nat.blt d nt=true:=by exact rfl) (A:Nat.blt d 100000=true:=by exact rfl) (B:o.op = .buildSlice t len parts:=by exact rfl) (C:P.underlying t=some (.slice e):=by exact rfl) (E:P.info? e=some ie:=by exact rfl) (F:ie.size=sz:=by exact rfl) (G:ie.zero=some z:=by exact rfl) (H:a4G parts.toList 0=true:=by exact rfl) (hx:Y3 S (parts.toList.map (·.2))=some cs:=by exact rfl) (hl:Nat.beq cs.length len=true:=by exact rfl) (hsz:a4J cs sz=true:=by exact rfl) (hp:Nat.blt 0 (len*sz)=true:=by exact rfl) (h24:Nat.ble (len*sz) 16777216=true:=by exact rfl) (hn2:(Nat.ble 200000 nn&&Nat.blt nn 400000)=true:=by exact rfl):AOp P w0 U0 nt ops o (gs++rdl (parts.toList.map (·.2))) [(nn,[])] S [(d,.sl nn 0 len sz),(nn,.mrow e sz cs)]:=b2J nn p q y A B C E F G H hx hl hsz hp h24 hn2
theorem AWp.hdl {c:Code} {Q:Exit→AS→Prop} (d n:Nat) (hd:Nat.blt d nt=true) (h5:Nat.blt d 100000=true) (hn:(Nat.ble 200000 n&&Nat.blt n 450000)=true) (h:∀ v,AWp P w0 U0 nt c Q ((d,.hdl v n)::s)):AWp P w0 U0 nt c Q s:=by
 intro M a w ⟨D,hv,hs⟩
 have hdn:d<a.tmps.size:=by rw [hs.size];exact bL hd
 exact h (hv n) M a w ⟨D,hv,hs.know (bL h5) (Array.getElem?_eq_getElem hdn) ⟨rnF hn,rfl⟩⟩
theorem a3f (d n dh:Nat) {len z:Nat} {v:Value} (h1:look s d=some (.sl n 0 len z)) (h2:look s dh=some (.hdl v n)) (hd:(Nat.blt d 100000&&Nat.blt dh 100000)=true):Wk w0 U0 nt s ((d,.val (.sc (a4B v len)))::s):=by
 rintro a w ⟨D,hv,h⟩
 rw [Bool.and_eq_true] at hd
 obtain ⟨u,g1,hrn,ao,m,cap,ao',e1,e2,e3,e4,e5,e6⟩:∃ u,a.tmps[d]?=some u∧RN n∧SlV (hv n) 0 len z u:=h.slot d _ h1 (bL hd.1)
 obtain ⟨_,_,_,hx⟩:∃ u,a.tmps[dh]?=some u∧RN n∧hv n=v:=h.slot dh _ h2 (bL hd.2)
 have e2:u = .slice ao len cap:=by rw [e2,e4 rfl];rfl
 refine ⟨D,hv,h.know (bL hd.1) g1 ?_⟩
 rw [←hx,e1]
 show AVRep _ _ _ _ (.val (.sc (.slice ao len cap))) u
 rw [e2]
 exact q8 rfl
theorem b0P (d n dh len:Nat) {e z:Nat} {l:List CV} {v:Value} (h1:look s d=some (.val (.sc (a4B v len)))) (h2:look s dh=some (.hdl v n)) (hm:look s n=some (.mrow e z l)) (hd:(Nat.blt d 100000&&Nat.blt dh 100000)=true) (hl:len≤l.length):Wk w0 U0 nt s ((d,.sl n 0 len z)::s):=by
 rintro a w ⟨D,hv,h⟩
 rw [Bool.and_eq_true] at hd
 obtain ⟨u,g1,g2⟩:=h.slot d _ h1 (bL hd.1)
 obtain ⟨_,_,hrn,hx⟩:∃ u,a.tmps[dh]?=some u∧RN n∧hv n=v:=h.slot dh _ h2 (bL hd.2)
 obtain ⟨xs,f1,_⟩:=h.mrow hm hrn
 obtain ⟨ao,cap,e1,e2,_⟩:=W0 f1
 have hu:u=a4B v len:=(n9.1 g2.1).1
 refine ⟨D,hv,h.know (bL hd.1) g1 ⟨hrn,?_⟩⟩
 show SlV (hv n) 0 len z u
 rw [hu,←hx,e1]
 exact ⟨ao,l.length,cap,ao,rfl,rfl,by omega,fun _=>rfl,fun _ g hg'=>by rw [hg',Nat.zero_mul],Iff.rfl⟩
def b9Q:UX:=⟨fun _ _=>True,fun _=>False,fun _=>none,fun _ _ h=>by cases h⟩
theorem SimG.view (h:SimG w0 U0 nt s a w D hv) {n e z len:Nat} {l:List CV} (hm:look s n=some (.mrow e z l)) (hrn:RN n) (hl:len≤l.length):VRep (fun _ _=>True) w (.lst (l.take len)) (a4B (hv n) len):=by
 obtain ⟨xs,ho,hz,hsz,hsq⟩:=h.mrow hm hrn
 obtain ⟨va,vc,ev,e2,e3,e4,e5⟩:=G8 ho
 rw [ev]
 have hsplit:l=l.take len++l.drop len:=(List.take_append_drop _ _).symm
 have q:=hsq
 rw [hsplit,List.map_append] at q
 obtain ⟨y1,y2,ey,s1,s2⟩:=w8 q
 refine j9.2 ⟨va,len,vc,rfl,by rw [List.length_take,Nat.min_eq_left hl],by omega,e3,(fun h=>⟨by have:=(e4 h).1;omega,(e4 h).2⟩),y1,?_,s1.keep fun b o v _ hc=>⟨trivial,hc⟩⟩
 rcases e5 with h0 | ⟨b,off,ha,hlt,hc⟩
 ·left
  have:=congrArg List.length ey
  rw [h0,List.length_append] at this
  exact List.eq_nil_of_length_eq_zero (by simp at this;omega)
 ·refine .inr ⟨b,off,ha,fun i hi=>⟨trivial,?_⟩⟩
  rw [hc i (by rw [ey,List.length_append];omega),ey,List.getElem?_append_left hi]
theorem SimG.viewBox (h:SimG w0 U0 nt s a w D hv) (n:Nat) {v:Value} {k q p k1 k2 k3} {c:CV} (hb:look s (100000+n)=some ⟨5,.sc v,k,q,p⟩) (hs:look s n=some ⟨2,⟨k1,k2,k3⟩,n,0,[]⟩) (hn:n<100000) (hc:c.k≠2) (hv2:VRep (fun _ _=>True) w c v):∃ u,a.tmps[n]?=some u∧VRep (fun _ _=>True) w (.ptr c) u:=by
 obtain ⟨g,xs,ty,g0,g1,g2,g5⟩:=h.box hb (by omega)
 obtain ⟨v',g6,g7⟩:=h.slot n _ hs hn
 have g7:v' = .pointer (some ⟨o0 (hv (100000+n)),0,none⟩):=g7.2
 have hgb2:o0 (hv (100000+n))=g:=by rw [g0];rfl
 rw [hgb2] at g7
 obtain rfl:xs=[v]:=(M3.1 g2).1
 refine ⟨v',g6,?_⟩
 rw [g7]
 refine U7.2 ⟨g,0,[v],rfl,?_,fun i hi=>⟨trivial,?_⟩⟩
 ·unfold VRep at hv2;rw [if_neg hc] at hv2;exact hv2
 have:=E9 (ys:=[]) (us:=[]) g1 (by simp) i hi
 simpa using this
theorem b3I {c:Code} {Q:Exit→AS→Prop} {R:Exit→Prop} (vs:List (Nat×CV)) (dr:Nat) (x:Value) (objs:AS)
  (hview:∀ a w D hv,SimG w0 U0 nt s a w D hv→∀ q∈vs,∃ v,a.tmps[q.1]?=some v∧VRep (fun _ _=>True) w q.2 v)
  (h:∀ w,AWp P w b9Q nt c (fun e s'=>R e∧look s' dr=some (.val (.sc x))) (vs.map fun q=>(q.1,.val q.2)))
  (hsub:SubL s objs) (hk:(kO objs).all (Nat.ble 100000)=true) (hvk:(vs.all fun q=>Nat.blt q.1 100000)=true) (hdr:Nat.blt dr 100000=true) (hQ:∀ e,R e→Q e ((dr,.val (.sc x))::objs)):AWp P w0 U0 nt c Q s:=by
 intro M a w ⟨D,hv,hs⟩
 have hlow:∀ {k av},look (vs.map fun q=>(q.1,AV.val q.2)) k=some av→∃ q∈vs,k=q.1∧av = .val q.2:=fun {k av} h1=>by
  obtain ⟨q,hq,he⟩:=List.mem_map.1 (B7 h1)
  injection he with e1 e2
  exact ⟨q,hq,e1.symm,e2.symm⟩
 rw [List.all_eq_true] at hvk hk
 have hlt:∀ {k av},look (vs.map fun q=>(q.1,AV.val q.2)) k=some av→k<100000:=fun {k av} h1=>by
  obtain ⟨q,hq,rfl,_⟩:=hlow h1
  exact bL (hvk q hq)
 have hS:Sim w b9Q nt (vs.map fun q=>(q.1,AV.val q.2)) a w:=by
  refine ⟨fun _ _=>False,hv,BelowX.refl _ _,hs.dfr,hs.size,fun d av h1 h2=>?_,fun n o av h1 h2 h3 h4=>?_,fun n o o' av av' h1 h2=>?_,fun k av h1 h2=>?_,fun k av g h1 h2=>?_,fun k k' av av' g h1 h2 h3 h4=>?_,fun k v h1=>(by cases h1),fun b o hd=>hd.elim⟩
  ·obtain ⟨q,hq,rfl,rfl⟩:=hlow h1
   obtain ⟨v,g1,g2⟩:=hview a w D hv hs q hq
   exact ⟨v,g1,k8 (g2.keep fun b o v _ hc=>⟨.inl ⟨World.block_lt_of_cell? w _ hc,trivial,fun h=>h⟩,hc⟩)⟩
  ·have:=hlt h1;unfold b9 at this;omega
  ·have:=hlt h1;unfold b9 at this;omega
  ·have:=hlt h1;have:=h2.1;omega
  ·have:=hlt h1;have:=h2.1;omega
  ·have:=hlt h1;have:=h3.1;omega
 refine G7 (h w M a w hS) ?_
 rintro e a' w' ⟨s',⟨hR,hx⟩,D',hv',g⟩
 refine ⟨_,hQ e hR,D,hv,?_⟩
 have hB:Below w.heap.size w w':=g.below.below fun k hk=>hk
 have h1:=(hs.sub hsub.sub).grow' hB
 have hlow2:∀ {k av},look objs k=some av→100000≤k:=fun {k av} h1=>Nat.le_of_ble_eq_true (hk k (d8 h1))
 have h2:SimG w0 U0 nt objs a' w' D hv:=⟨h1.below,g.dfr,g.size,fun d av h7 h8=>by have:=hlow2 h7;omega,h1.fld,h1.fdis,h1.obj,h1.blk,h1.disj,h1.fix,h1.dlt⟩
 obtain ⟨v,k1,k2⟩:=g.slot dr _ hx (bL hdr)
 obtain ⟨rfl,k3⟩:=n9.1 k2.1
 exact h2.know (bL hdr) k1 (q8 k3)
theorem a9O {W:World} {f:FuncId} {x:Value} {c2:CV} {e z nm N:Nat} {l:List CV} (h1:300000≤nm) (h2:nm<450000) (hN:N≤l.length) (h:AFun P W f [.lst (l.take N),c2] (.val (.sc x))):p9 P f [(nm,.mrow e z l)] [.sl nm 0 N z,.val c2] (.val (.sc x)) [(nm,.mrow e z l)]:=by
 refine ⟨h.1,fun U w hv a0 vs hU hp ha=>?_⟩
 obtain ⟨u1,us1,rfl,a1,u2,us2,rfl,a2,a4⟩:=ha
 have a4:us2=[]:=a4
 subst a4
 have hrn:RN nm:=⟨by omega,by omega⟩
 have hlk:look [(nm,AV.mrow e z l)] nm=some (.mrow e z l):=by rw [b8];simp
 have hvw:=hp.view hlk hrn hN
 have a1:RN nm∧SlV (hv nm) 0 N z u1:=a1
 obtain ⟨_,ao,m,cap,ao',s1,s2,s3,s4,_⟩:=a1
 have e9:u1=a4B (hv nm) N:=by rw [s1,s2,s4 rfl];rfl
 refine (h.2.2.2 (fun _ _=>True) w _ trivial ⟨_,_,rfl,by rw [e9];exact hvw,_,_,rfl,a2.1.mono fun b o _=>trivial,rfl⟩).mono ?_
 rintro e' w' ⟨v,rfl,hr,hB⟩
 obtain ⟨rfl,h9⟩:=n9.1 hr
 exact ⟨_,_,hv,a0,rfl,hp.grow' hB,q8 h9⟩
end
end Go.Proofs.YtglmoficcjphaaaGreat
namespace Go.Proofs.YtglmoficcjphaaaGreat
open Go.RowKit
set_option linter.unusedVariables false
set_option linter.unusedSimpArgs false
set_option maxRecDepth 100000
def Tm.pa (t:Tm) (n:Int):Option Tm:=if 0≤n then t.ps[n.toNat]? else none
def c3y (p q:List Int):Bool:=decide (q=p.take q.length)
def atP:List Int→Tm→Option Tm
 | [],t=>some t
 | k::ks,t=>(t.pa k).bind (atP ks)
def c2B (p:List Int) (t:Tm) (k:Nat):Tm:=(atP (p.take k) t).getD ⟨0,[]⟩
theorem a8J {U:Nat→Nat→Prop} {w:World} {a:Option Addr} {xs:List Value} (h:At U w a xs):Cs w a xs:=by
 rcases h with h | ⟨b,off,ha,hc⟩
 ·exact .inl h
 ·by_cases hz:xs=[]
  ·exact .inl hz
  ·refine .inr ⟨b,off,ha,?_,fun i hi=>(hc i hi).2⟩
   have hpos:0<xs.length:=List.length_pos_iff.2 hz
   have:=(hc 0 hpos).2
   rw [List.getElem?_eq_getElem hpos] at this
   exact World.block_lt_of_cell? w _ this
theorem a9I {w:World} {base:Nat} {e:TypeId} {size:Nat} {v:Value} {n:Nat} {xs:List Value} (h:w.ownsRow base e size v n xs) :
  ∃ a c,v = .slice a n c∧n≤c∧c≤maxLen∧(a=none→n=0∧c=0)∧At (fun b _=>base≤b) w a xs:=by
 have ho:=h
 obtain ⟨h1,h2⟩:=h
 rcases h2 with ⟨rfl,rfl⟩ | ⟨g,cap,cur,rfl,hb,hh,hn,hm,hs,ht⟩
 ·exact ⟨none,0,rfl,by omega,by simp,fun _=>⟨rfl,rfl⟩,.inl (List.eq_nil_of_length_eq_zero (by omega))⟩
 ·refine ⟨_,cap,rfl,hn,hm,(fun h=>by cases h),.inr ⟨g,0,rfl,fun i hi=>⟨hb,?_⟩⟩⟩
  rw [show 0+i=i by omega]
  exact ho.cellAt i (by omega)
def c1W (u:Tm):List Int→Tm→Option Tm
 | [],t=>some u.strip
 | k::ks,t=>(t.pa k).bind fun s=>(c1W u ks s).map fun v=>⟨t.f,(t.l.take k.toNat).map Tm.strip++v::(t.l.drop (k.toNat+1)).map Tm.strip⟩
end Go.Proofs.YtglmoficcjphaaaGreat
namespace Go.Proofs.YtglmoficcjphaaaGreat
set_option linter.unusedVariables false
set_option linter.unusedSimpArgs false
theorem b3W {l:List Tm} {m:Nat} {s:Tm} (h:l[m]?=some s):l=l.take m++s::l.drop (m+1)∧m<l.length:=by
 have hm:m<l.length:=by
  rcases Nat.lt_or_ge m l.length with h1 | h1
  ·exact h1
  ·rw [List.getElem?_eq_none h1] at h;cases h
 refine ⟨?_,hm⟩
 have e:l[m]=s:=by rw [List.getElem?_eq_getElem hm] at h;exact Option.some.inj h
 rw [←e,←List.drop_eq_getElem_cons hm,List.take_append_drop]
def cov (a b:Tm):Prop:=∀ v,b.vs.count v≤a.vs.count v
def b1u (z w:Int):Int:=if 0<z then 1 else if z<0 then -1 else w
noncomputable def b6h (o:Int) (c d:Prop):Int:=
 haveI:=Classical.propDecidable
 if (o=1∧¬ c)∨(o = -1∧¬ d) then 2 else o
noncomputable def a0w (z:Int) (c d:Prop) (w:Int):Int:=if w=0 then 0 else b6h (b1u z w) c d
def hdK (a b:Tm):Int:=if a.f<0∨b.f<0 then 2 else if a.f≠b.f then I7 a.f b.f else I7 a.l.length b.l.length
noncomputable def T0 (k:Int) (r:Int):Int:=if k≠0 then k else r
noncomputable def szD (a b:Tm):Int:=(a.size:Int)-b.size
noncomputable def kb (p:Tm):Tm→Int:=
 Tm.rec (motive_1:=fun _=>Tm→Int) (motive_2:=fun _=>List Tm→Int)
  (fun f l ih t=>a0w (szD ⟨f,l⟩ t) (cov ⟨f,l⟩ t) (cov t ⟨f,l⟩) (if f≠t.f∨(Tm.mk f l).ps.length≠t.ps.length then hdK ⟨f,l⟩ t else if f<0 then 0 else ih t.l))
  (fun _=>0)
  (fun _ _ ih1 ih2 ts=>match ts with | []=>0 | t::ts=>T0 (ih1 t) (ih2 ts)) p
noncomputable def kbs (ps:List Tm):List Tm→Int:=
 Tm.rec_1 (motive_1:=fun _=>Tm→Int) (motive_2:=fun _=>List Tm→Int)
  (fun f l ih t=>a0w (szD ⟨f,l⟩ t) (cov ⟨f,l⟩ t) (cov t ⟨f,l⟩) (if f≠t.f∨(Tm.mk f l).ps.length≠t.ps.length then hdK ⟨f,l⟩ t else if f<0 then 0 else ih t.l))
  (fun _=>0)
  (fun _ _ ih1 ih2 ts=>match ts with | []=>0 | t::ts=>T0 (ih1 t) (ih2 ts)) ps
noncomputable def wi (a b:Tm):Int:=if a.f≠b.f∨a.ps.length≠b.ps.length then hdK a b else kbs a.ps b.ps
theorem a6l (ts:List Tm):kbs [] ts=0:=rfl
theorem G3 (p:Tm) (ps:List Tm) (t:Tm) (ts:List Tm):kbs (p::ps) (t::ts)=T0 (kb p t) (kbs ps ts):=rfl
theorem M0 (a b:Tm):kb a b=a0w (szD a b) (cov a b) (cov b a) (wi a b):=by
 cases a with
 | mk f l =>
  show a0w _ _ _ _=_
  congr 1
  unfold wi
  simp only
  split
  ·rfl
  ·rename_i h
   by_cases hf:f<0
   ·rw [if_pos hf,Tm.ps_of_var (t:=⟨f,l⟩) hf,a6l]
   ·rw [if_neg hf,Tm.ps_of_sym (t:=⟨f,l⟩) (by show 0≤f;omega),Tm.ps_of_sym (t:=b) (by have:=Classical.not_not.1 (fun e=>h (.inl e));omega)]
    rfl
theorem R2 (z:Int) (c d:Prop) (w:Int):(w=0∧a0w z c d w=0)∨(w≠0∧∃ o,((0<z∧o=1)∨(z<0∧o = -1)∨(z=0∧o=w))∧((a0w z c d w=2∧((o=1∧¬ c)∨(o = -1∧¬ d)))∨(a0w z c d w=o∧¬ ((o=1∧¬ c)∨(o = -1∧¬ d))))):=by
 unfold a0w
 by_cases h0:w=0
 ·left;exact ⟨h0,if_pos h0⟩
 ·right
  refine ⟨h0,b1u z w,?_,?_⟩
  ·unfold b1u
   by_cases h1:0<z
   ·rw [if_pos h1];exact .inl ⟨h1,rfl⟩
   ·rw [if_neg h1]
    by_cases h2:z<0
    ·rw [if_pos h2];exact .inr (.inl ⟨h2,rfl⟩)
    ·rw [if_neg h2];exact .inr (.inr ⟨by omega,rfl⟩)
  ·rw [if_neg h0]
   generalize b1u z w=o
   unfold b6h
   by_cases h3:(o=1∧¬ c)∨(o = -1∧¬ d)
   ·left;exact ⟨if_pos h3,h3⟩
   ·right;exact ⟨if_neg h3,h3⟩
theorem A3 {z:Int} {c d:Prop} {w:Int}:a0w z c d w=0↔w=0:=by
 rcases R2 z c d w with ⟨h1,h2⟩ | ⟨h1,o,h2,⟨h3,h4⟩ | ⟨h3,h4⟩⟩
 ·exact ⟨fun _=>h1,fun _=>h2⟩
 ·omega
 ·omega
theorem a3Q {z:Int} {c d:Prop} {w:Int}:a0w z c d w=1↔w≠0∧c∧(0<z∨(z=0∧w=1)):=by
 rcases R2 z c d w with ⟨h1,h2⟩ | ⟨h1,o,h2,⟨h3,h4⟩ | ⟨h3,h4⟩⟩
 ·constructor
  ·intro h;omega
  ·rintro ⟨h,_⟩;exact absurd h1 h
 ·constructor
  ·intro h;omega
  ·rintro ⟨_,hc,h⟩
   have:o=1:=by omega
   rcases h4 with h4 | h4
   ·exact absurd hc h4.2
   ·omega
 ·constructor
  ·intro h
   have ho:o=1:=by omega
   exact ⟨h1,Classical.not_not.1 fun hc=>h4 (.inl ⟨ho,hc⟩),by omega⟩
  ·rintro ⟨_,hc,h⟩;omega
theorem a5B {z:Int} {c d:Prop} {w:Int}:a0w z c d w = -1↔w≠0∧d∧(z<0∨(z=0∧w = -1)):=by
 rcases R2 z c d w with ⟨h1,h2⟩ | ⟨h1,o,h2,⟨h3,h4⟩ | ⟨h3,h4⟩⟩
 ·constructor
  ·intro h;omega
  ·rintro ⟨h,_⟩;exact absurd h1 h
 ·constructor
  ·intro h;omega
  ·rintro ⟨_,hc,h⟩
   have:o = -1:=by omega
   rcases h4 with h4 | h4
   ·omega
   ·exact absurd hc h4.2
 ·constructor
  ·intro h
   have ho:o = -1:=by omega
   exact ⟨h1,Classical.not_not.1 fun hc=>h4 (.inr ⟨ho,hc⟩),by omega⟩
  ·rintro ⟨_,hc,h⟩;omega
def K4 (k:Int):Prop:=k=0∨k=1∨k = -1∨k=2
theorem a1t {z:Int} {c d:Prop} {w:Int} (h:K4 w):K4 (a0w z c d w):=by
 unfold K4 at *
 rcases R2 z c d w with ⟨h1,h2⟩ | ⟨h1,o,h2,⟨h3,h4⟩ | ⟨h3,h4⟩⟩<;>omega
theorem b1z (a b:Tm):K4 (hdK a b):=by
 unfold hdK K4
 split
 ·omega
 ·split
  ·rcases o6 a.f b.f with h | h | h<;>omega
  ·rcases o6 a.l.length b.l.length with h | h | h<;>omega
theorem b3w {a b:Tm} (h:a.f≠b.f∨a.ps.length≠b.ps.length):hdK a b≠0:=by
 unfold hdK
 split
 ·omega
 ·rename_i h1
  rw [Tm.ps_of_sym (t:=a) (by omega),Tm.ps_of_sym (t:=b) (by omega)] at h
  split
  ·rcases o6 a.f b.f with h2 | h2 | h2<;>omega
  ·rcases o6 a.l.length b.l.length with h2 | h2 | h2<;>omega
theorem a4c:∀ {l m:List Tm},(∀ s∈l,∀ t,K4 (kb s t))→K4 (kbs l m)
 | [],m,_ => .inl rfl
 | _::_,[],_ => .inl rfl
 | x::l,y::m,h=>by
  rw [G3]
  unfold T0
  split
  ·exact h x (by simp) y
  ·exact a4c fun s hs=>h s (List.mem_cons_of_mem _ hs)
theorem b0Z (a:Tm):∀ b,K4 (kb a b):=by
 induction a using Tm.indp with
 | h a ih =>
  intro b
  rw [M0]
  refine a1t ?_
  unfold wi
  split
  ·exact b1z a b
  ·exact a4c ih
theorem a8p:∀ {l m:List Tm},l.length=m.length→(∀ s∈l,∀ t,kb s t=0↔s.strip=t.strip)→(kbs l m=0↔l.map Tm.strip=m.map Tm.strip)
 | [],[],_,_=>by simp [a6l]
 | [],_::_,h,_=>by simp at h
 | _::_,[],h,_=>by simp at h
 | x::l,y::m,h,ih=>by
  rw [G3,List.map_cons,List.map_cons,List.cons.injEq,←ih x (by simp) y,←a8p (by simpa using h) fun s hs=>ih s (List.mem_cons_of_mem _ hs)]
  unfold T0
  split
  ·rename_i h1
   constructor
   ·intro h2;exact absurd h2 h1
   ·rintro ⟨h2,_⟩;exact h2
  ·rename_i h1
   exact ⟨fun h2=>⟨Classical.not_not.1 h1,h2⟩,fun h2=>h2.2⟩
theorem a5O (a b:Tm):a.strip=b.strip↔a.f=b.f∧a.ps.map Tm.strip=b.ps.map Tm.strip:=by
 rw [Tm.strip_eq,Tm.strip_eq b,Tm.mk.injEq]
theorem b1s (a:Tm):∀ b,kb a b=0↔a.strip=b.strip:=by
 induction a using Tm.indp with
 | h a ih =>
  intro b
  rw [M0,A3,a5O]
  unfold wi
  split
  ·rename_i h
   constructor
   ·intro h1;exact absurd h1 (b3w h)
   ·rintro ⟨h1,h2⟩
    have:=congrArg List.length h2
    rw [List.length_map,List.length_map] at this
    omega
  ·rename_i h
   have hf:a.f=b.f:=by omega
   rw [a8p (by omega) ih]
   exact ⟨fun h1=>⟨hf,h1⟩,fun h1=>h1.2⟩
theorem cov_strip {a b:Tm}:cov a.strip b↔cov a b:=by unfold cov;rw [Tm.strip_vs]
theorem a3i {a b:Tm}:cov a b.strip↔cov a b:=by unfold cov;rw [Tm.strip_vs]
theorem b5j (a b:Tm):hdK a.strip b.strip=hdK a b:=by
 unfold hdK
 rw [Tm.strip_f,Tm.strip_f]
 split
 ·rfl
 ·rename_i h
  split
  ·rfl
  ·rw [Tm.strip_l,Tm.strip_l,List.length_map,List.length_map,Tm.ps_of_sym (t:=a) (by omega),Tm.ps_of_sym (t:=b) (by omega)]
theorem a5C:∀ {l m:List Tm},(∀ s∈l,∀ t,kb s.strip t.strip=kb s t)→kbs (l.map Tm.strip) (m.map Tm.strip)=kbs l m
 | [],m,_=>rfl
 | _::_,[],_=>rfl
 | x::l,y::m,h=>by
  rw [List.map_cons,List.map_cons,G3,G3,h x (by simp) y,a5C fun s hs=>h s (List.mem_cons_of_mem _ hs)]
theorem a8L (a:Tm):∀ b,kb a.strip b.strip=kb a b:=by
 induction a using Tm.indp with
 | h a ih =>
  intro b
  rw [M0,M0 a]
  have h1:wi a.strip b.strip=wi a b:=by
   unfold wi
   rw [Tm.strip_f,Tm.strip_f,Tm.strip_ps,Tm.strip_ps,List.length_map,List.length_map,b5j,a5C ih]
  have h2:szD a.strip b.strip=szD a b:=by unfold szD;rw [Tm.strip_size,Tm.strip_size]
  have h3:cov a.strip b.strip=cov a b:=propext (cov_strip.trans a3i)
  have h4:cov b.strip a.strip=cov b a:=propext (cov_strip.trans a3i)
  rw [h1,h2,h3,h4]
theorem b4i {a a' b b':Tm} (h:a.strip=a'.strip) (h2:b.strip=b'.strip):kb a b=kb a' b':=by rw [←a8L a,h,h2,a8L]
theorem b9r (a b:Tm):kb a b=1↔cov a b∧(b.size<a.size∨(a.size=b.size∧wi a b=1)):=by
 rw [M0,a3Q]
 unfold szD
 constructor
 ·rintro ⟨h1,h2,h3⟩;exact ⟨h2,by omega⟩
 ·rintro ⟨h1,h2⟩
  refine ⟨fun e=>?_,h1,by omega⟩
  have h3:kb a b=0:=by rw [M0,A3];exact e
  have h4:=(b1s a b).1 h3
  have h5:a.size=b.size:=by rw [←Tm.strip_size,h4,Tm.strip_size]
  omega
theorem b7J (a b:Tm) (h:hdK a b≠2):hdK b a = - hdK a b:=by
 unfold hdK at *
 by_cases h1:a.f<0∨b.f<0
 ·rw [if_pos h1] at h;exact absurd rfl h
 ·rw [if_neg h1,if_neg (by omega)]
  by_cases h2:a.f=b.f
  ·rw [if_neg (by omega),if_neg (by omega)]
   rcases o6 a.l.length b.l.length with h3 | h3 | h3<;>rcases o6 b.l.length a.l.length with h4 | h4 | h4<;>omega
  ·rw [if_pos (by omega),if_pos h2]
   rcases o6 a.f b.f with h3 | h3 | h3<;>rcases o6 b.f a.f with h4 | h4 | h4<;>omega
theorem b4m (a b:Tm) (h:hdK a b=2):hdK b a=2:=by
 unfold hdK at *
 by_cases h1:a.f<0∨b.f<0
 ·rw [if_pos (by omega)]
 ·rw [if_neg h1] at h
  exfalso
  split at h
  ·rcases o6 a.f b.f with h3 | h3 | h3<;>omega
  ·rcases o6 a.l.length b.l.length with h3 | h3 | h3<;>omega
def trn (k:Int):Int:=if k=2 then 2 else-k
theorem a4g {k:Int} (h:K4 k):(trn k=0↔k=0)∧(trn k=1↔k = -1)∧(trn k = -1↔k=1)∧K4 (trn k):=by
 unfold trn K4 at *
 split<;>omega
theorem b3g {z:Int} {c d:Prop} {w:Int} (h:K4 w):a0w (-z) d c (trn w)=trn (a0w z c d w):=by
 have h1:=a1t (z:=z) (c:=c) (d:=d) h
 have t0:=a4g h
 have h2:=a1t (z := -z) (c:=d) (d:=c) t0.2.2.2
 have t1:=a4g h1
 have a0:=@A3 z c d w
 have a1:=@a3Q z c d w
 have a2:=@a5B z c d w
 have b0:=@A3 (-z) d c (trn w)
 have b1:=@a3Q (-z) d c (trn w)
 have b2:=@a5B (-z) d c (trn w)
 generalize a0w (-z) d c (trn w)=y at *
 generalize a0w z c d w=x at *
 have e0:y=0↔x=0:=by rw [b0,a0];exact t0.1
 have e1:y=1↔x = -1:=by
  rw [b1,a2]
  constructor
  ·rintro ⟨g1,g2,g3⟩;exact ⟨fun e=>g1 (t0.1.2 e),g2,by rcases g3 with g3 | ⟨g3,g4⟩;omega;exact .inr ⟨by omega,t0.2.1.1 g4⟩⟩
  ·rintro ⟨g1,g2,g3⟩;exact ⟨fun e=>g1 (t0.1.1 e),g2,by rcases g3 with g3 | ⟨g3,g4⟩;omega;exact .inr ⟨by omega,t0.2.1.2 g4⟩⟩
 have e2:y = -1↔x=1:=by
  rw [b2,a1]
  constructor
  ·rintro ⟨g1,g2,g3⟩;exact ⟨fun e=>g1 (t0.1.2 e),g2,by rcases g3 with g3 | ⟨g3,g4⟩;omega;exact .inr ⟨by omega,t0.2.2.1.1 g4⟩⟩
  ·rintro ⟨g1,g2,g3⟩;exact ⟨fun e=>g1 (t0.1.1 e),g2,by rcases g3 with g3 | ⟨g3,g4⟩;omega;exact .inr ⟨by omega,t0.2.2.1.2 g4⟩⟩
 unfold trn
 unfold K4 at h1 h2
 split<;>omega
theorem a8Y:∀ {l m:List Tm},l.length=m.length→(∀ s∈l,∀ t,kb t s=trn (kb s t))→kbs m l=trn (kbs l m)
 | [],[],_,_=>by rw [a6l];rfl
 | [],_::_,h,_=>by simp at h
 | _::_,[],h,_=>by simp at h
 | x::l,y::m,h,ih=>by
  rw [G3,G3,ih x (by simp) y,a8Y (by simpa using h) fun s hs=>ih s (List.mem_cons_of_mem _ hs)]
  have:=(a4g (b0Z x y)).1
  unfold T0
  by_cases h1:kb x y=0
  ·rw [if_neg (fun e=>e (this.2 h1)),if_neg (by omega)]
  ·rw [if_pos (fun e=>h1 (this.1 e)),if_pos h1]
theorem b6N (a:Tm):∀ b,kb b a=trn (kb a b):=by
 induction a using Tm.indp with
 | h a ih =>
  intro b
  rw [M0,M0 a]
  have h1:szD b a = - szD a b:=by unfold szD;omega
  have h4:K4 (wi a b):=by
   unfold wi
   split
   ·exact b1z a b
   ·exact a4c fun s _ t=>b0Z s t
  rw [h1,←b3g h4]
  congr 1
  unfold wi
  by_cases h:a.f≠b.f∨a.ps.length≠b.ps.length
  ·rw [if_pos h,if_pos (by omega)]
   unfold trn
   split
   ·rename_i h2;exact b4m a b h2
   ·rename_i h2;exact b7J a b h2
  ·rw [if_neg h,if_neg (by omega)]
   exact a8Y (by omega) ih
def cn (s:Tm) (l:List Tm):Nat:=l.countP (fun t=>v8 s t)
theorem b5v (s:Tm):cn s []=0:=rfl
theorem a2T (s t:Tm) (l:List Tm):cn s (t::l)=cn s l+(if v8 s t=true then 1 else 0):=by unfold cn;exact List.countP_cons
theorem b5F (s:Tm) (l m:List Tm):cn s (l++m)=cn s l+cn s m:=by unfold cn;exact List.countP_append
theorem Q0 (s:Tm):v8 s s=true:=(x7 _ _).2 rfl
theorem b4j {s t:Tm} (h:v8 s t=true) (l:List Tm):cn s l=cn t l:=by
 unfold cn
 refine List.countP_congr fun x _=>?_
 rw [x7,x7,(x7 _ _).1 h]
theorem a4j {s:Tm} {l:List Tm}:0<cn s l↔∃ t∈l,v8 s t=true:=by unfold cn;exact List.countP_pos_iff
theorem b0o {t:Tm} {l:List Tm} (h:t∈l):0<cn t l:=a4j.2 ⟨t,h,Q0 t⟩
theorem b1E {a a' b b':Tm} (h:v8 a a'=true) (h2:v8 b b'=true):kb a b=kb a' b':=b4i ((x7 _ _).1 h) ((x7 _ _).1 h2)
def b5R (A B:List Tm):Prop:=(∃ s,cn s B<cn s A)∧∀ s,cn s A<cn s B→∃ t,cn t B<cn t A∧kb t s=1
theorem b7i (A:List Tm):¬ b5R A A:=fun h=>by obtain ⟨s,h⟩:=h.1;omega
theorem mul_one (A:List Tm) (z:Tm):b5R (A++[z]) A:=by
 refine ⟨⟨z,?_⟩,fun s hs=>?_⟩
 ·rw [b5F,a2T,b5v,Q0];simp
 ·rw [b5F] at hs;omega
def C4:Nat→List Tm→List Tm→List Tm×List Tm
 | 0,a,b=>(a,b)
 | n+1,a,b=>match a[n]? with
  | none=>C4 n a b
  | some t=>match b.findIdx? (v8 t) with
   | none=>C4 n a b
   | some k=>C4 n (a.eraseIdx n) (b.eraseIdx k)
theorem a0Q (s:Tm):∀ {l:List Tm} {k:Nat} {t:Tm},l[k]?=some t→cn s (l.eraseIdx k)+(if v8 s t=true then 1 else 0)=cn s l
 | [],k,t,h=>by simp at h
 | x::l,0,t,h=>by
  have e:x=t:=by simpa using h
  subst e
  rw [List.eraseIdx_cons_zero,a2T]
 | x::l,k+1,t,h=>by
  have e:=a0Q s (l:=l) (k:=k) (t:=t) (by simpa using h)
  rw [List.eraseIdx_cons_succ,a2T,a2T,←e];omega
theorem a6O:∀ (n:Nat) (a b:List Tm) (s:Tm),cn s (C4 n a b).1+cn s b=cn s (C4 n a b).2+cn s a
 | 0,a,b,s=>by unfold C4;exact Nat.add_comm _ _
 | n+1,a,b,s=>by
  unfold C4
  split
  ·exact a6O n a b s
  ·rename_i t ht
   split
   ·exact a6O n a b s
   ·rename_i k hk
    obtain ⟨hkl,hp,_⟩:=List.findIdx?_eq_some_iff_getElem.1 hk
    have h1:=a6O n (a.eraseIdx n) (b.eraseIdx k) s
    have h2:=a0Q s ht
    have h3:=a0Q s (List.getElem?_eq_getElem hkl)
    have h4:v8 s t=v8 s b[k]:=by rw [Bool.eq_iff_iff,x7,x7,(x7 _ _).1 hp]
    rw [h4] at h2
    omega
theorem b4h {a:List Tm} {n:Nat} {t:Tm} (h:a[n]?=some t):a.drop n=t::a.drop (n+1):=by
 obtain ⟨hl,he⟩:=List.getElem?_eq_some_iff.1 h
 rw [List.drop_eq_getElem_cons hl,he]
theorem a9i {a:List Tm} {n:Nat} (h:n<a.length):(a.eraseIdx n).drop n=a.drop (n+1):=by
 rw [List.eraseIdx_eq_take_drop_succ,List.drop_append]
 rw [List.length_take,Nat.min_eq_left (by omega)]
 simp
theorem a1f:∀ (n:Nat) (a b:List Tm),n≤a.length→(∀ t∈a.drop n,cn t b=0)→∀ t∈(C4 n a b).1,cn t (C4 n a b).2=0
 | 0,a,b,_,h=>by unfold C4;simpa using h
 | n+1,a,b,hn,h=>by
  unfold C4
  split
  ·rename_i ht;rw [List.getElem?_eq_none_iff] at ht;omega
  ·rename_i t ht
   split
   ·rename_i hk
    refine a1f n a b (by omega) fun u hu=>?_
    rw [b4h ht] at hu
    rcases List.mem_cons.1 hu with rfl | hu
    ·rw [List.findIdx?_eq_none_iff] at hk
     refine Nat.eq_zero_of_not_pos fun hc=>?_
     obtain ⟨v,hv,he⟩:=a4j.1 hc
     have:=hk v hv
     rw [he] at this;cases this
    ·exact h u hu
   ·rename_i k hk
    obtain ⟨hkl,hp,_⟩:=List.findIdx?_eq_some_iff_getElem.1 hk
    refine a1f n _ _ (by rw [List.length_eraseIdx_of_lt (by omega)];omega) fun u hu=>?_
    rw [a9i (by omega)] at hu
    have h1:=h u hu
    have h2:=a0Q u (List.getElem?_eq_getElem hkl)
    omega
noncomputable def a8q (X Y:List Tm):Bool:=decide (0<X.length)&&!(Y.any fun y=>!(X.any fun x=>decide (kb x y=1)))
theorem b4l (X Y:List Tm):a8q X Y=true↔X≠[]∧∀ y∈Y,∃ x∈X,kb x y=1:=by
 unfold a8q
 rw [Bool.and_eq_true,decide_eq_true_iff,Bool.not_eq_true',←Bool.not_eq_true,List.any_eq_true,List.length_pos_iff]
 refine and_congr_right fun _=>⟨fun h y hy=>?_,fun h hc=>?_⟩
 ·by_cases hx:(X.any fun x=>decide (kb x y=1))=true
  ·obtain ⟨x,hx,he⟩:=List.any_eq_true.1 hx
   exact ⟨x,hx,of_decide_eq_true he⟩
  ·exact absurd ⟨y,hy,by simpa using hx⟩ h
 ·obtain ⟨y,hy,he⟩:=hc
  obtain ⟨x,hx,hk⟩:=h y hy
  have:(X.any fun x=>decide (kb x y=1))=true:=List.any_eq_true.2 ⟨x,hx,decide_eq_true hk⟩
  rw [this] at he;cases he
theorem b7d {X Y A B:List Tm} (h1:∀ s,cn s X=cn s A-cn s B) (h2:∀ s,cn s Y=cn s B-cn s A):a8q X Y=true↔b5R A B:=by
 rw [b4l]
 unfold b5R
 constructor
 ·rintro ⟨h3,h4⟩
  refine ⟨?_,fun s hs=>?_⟩
  ·cases X with
   | nil=>exact absurd rfl h3
   | cons x X =>
    have h5:=b0o (l:=x::X) List.mem_cons_self
    have h6:=h1 x
    exact ⟨x,by omega⟩
  ·have h5:=h2 s
   obtain ⟨y,hy,he⟩:=a4j.1 (show 0<cn s Y by omega)
   obtain ⟨x,hx,hk⟩:=h4 y hy
   have h6:=b0o hx
   have h7:=h1 x
   exact ⟨x,by omega,by rw [b1E (Q0 x) he];exact hk⟩
 ·rintro ⟨⟨s,hs⟩,h4⟩
  refine ⟨?_,fun y hy=>?_⟩
  ·rintro rfl
   have h5:=h1 s
   rw [b5v] at h5;omega
  ·have h5:=b0o hy
   have h6:=h2 y
   obtain ⟨t,ht,hk⟩:=h4 y (by omega)
   have h7:=h1 t
   obtain ⟨x,hx,he⟩:=a4j.1 (show 0<cn t X by omega)
   exact ⟨x,hx,by rw [←b1E he (Q0 y)];exact hk⟩
noncomputable def a6J (a b:List Tm):Bool:=a8q (C4 a.length a b).1 (C4 a.length a b).2
theorem b5c (a b:List Tm):a6J a b=true↔b5R a b:=by
 have h1:=a6O a.length a b
 have h2:=a1f a.length a b (Nat.le_refl _) (by simp)
 have h3:∀ s,cn s (C4 a.length a b).1=0∨cn s (C4 a.length a b).2=0:=by
  intro s
  by_cases hc:0<cn s (C4 a.length a b).1
  ·obtain ⟨t,ht,he⟩:=a4j.1 hc
   right;rw [b4j he];exact h2 t ht
  ·left;omega
 refine b7d (fun s=>?_) (fun s=>?_)
 ·have:=h1 s;have:=h3 s;omega
 ·have:=h1 s;have:=h3 s;omega
def c1Q (b:List Tm) (u:List Bool) (t:Tm):Option Nat:=(b.zip u).findIdx? (fun p=>!p.2&&v8 t p.1)
def lsD:List Tm→List Tm→List Bool→List Tm
 | [],b,u=>[]
 | t::a,b,u=>match c1Q b u t with
  | none=>t::lsD a b u
  | some k=>lsD a b (u.set k true)
def rm (s:Tm) (b:List Tm) (u:List Bool):Nat:=(b.zip u).countP (fun p=>!p.2&&v8 s p.1)
def c2I (a b:List Tm):List Tm:=lsD a b (List.replicate b.length false)
structure Sc where
 sz:Int
 mp:List (Int×Int)
 sp:Int
 lk:Int
def B5:List (Int×Int)→Int→Option Int
 | [],_=>none
 | (k,x)::l,v=>if k=v then some x else B5 l v
def C3 (l:List (Int×Int)) (v:Int):Int:=(B5 l v).getD 0
def R7:List (Int×Int)→Int→Int→List (Int×Int)
 | [],v,y=>[(v,y)]
 | (k,x)::l,v,y=>if k=v then (v,y)::l else (k,x)::R7 l v y
theorem b6z (l:List (Int×Int)) (v y:Int):R7 l v y≠[]:=by
 cases l with
 | nil=>simp [R7]
 | cons p l =>
  obtain ⟨k,x⟩:=p
  rw [R7]
  split<;>simp
theorem b2a (l:List (Int×Int)) (v y u:Int):B5 (R7 l v y) u=if v=u then some y else B5 l u:=by
 induction l with
 | nil=>rfl
 | cons p l ih =>
  obtain ⟨k,x⟩:=p
  rw [R7]
  by_cases h:k=v
  ·rw [if_pos h,B5,B5]
   by_cases h2:v=u
   ·rw [if_pos h2,if_pos h2]
   ·rw [if_neg h2,if_neg h2,if_neg (by omega)]
  ·rw [if_neg h,B5,B5]
   by_cases h2:k=u
   ·rw [if_pos h2,if_pos h2,if_neg (by omega)]
   ·rw [if_neg h2,if_neg h2,ih]
theorem a8a (l:List (Int×Int)) (v y u:Int):C3 (R7 l v y) u=if v=u then y else C3 l u:=by
 unfold C3
 rw [b2a]
 split<;>rfl
def B9 (s:Sc) (v σ:Int):Sc:=⟨s.sz,R7 s.mp v (C3 s.mp v+σ),s.sp+(max (C3 s.mp v+σ) 0-max (C3 s.mp v) 0),s.lk+(max (-(C3 s.mp v+σ)) 0-max (-(C3 s.mp v)) 0)⟩
def a6m (σ:Int) (s:Sc) (t:Tm):Sc:=if t.f<0 then B9 ⟨s.sz+σ,s.mp,s.sp,s.lk⟩ (-1-t.f) σ else ⟨s.sz+σ,s.mp,s.sp,s.lk⟩
def addT (σ:Int) (s:Sc) (t:Tm):Sc:=t.flat.foldl (a6m σ) s
def addL (σ:Int) (s:Sc) (l:List Tm):Sc:=(l.flatMap Tm.flat).foldl (a6m σ) s
theorem b4n {σ:Int} {s:Sc} {t:Tm} (h:t.f<0):addT σ s t=B9 ⟨s.sz+σ,s.mp,s.sp,s.lk⟩ (-1-t.f) σ:=by
 unfold addT
 rw [Tm.flat_eq,Tm.ps_of_var h]
 show a6m σ s t=_
 unfold a6m
 rw [if_pos h]
theorem b3J {σ:Int} {s:Sc} {t:Tm} (h:¬ t.f<0):addT σ s t=addL σ ⟨s.sz+σ,s.mp,s.sp,s.lk⟩ t.l:=by
 unfold addT addL
 rw [Tm.flat_eq,Tm.ps_of_sym (by omega),List.foldl_cons]
 congr 1
 unfold a6m
 rw [if_neg h]
theorem b2e {σ:Int} {s:Sc} {l:List Tm} {k:Nat} {t:Tm} (h:l[k]?=some t):addL σ s (l.take (k+1))=addT σ (addL σ s (l.take k)) t:=by
 unfold addL addT
 rw [List.take_add_one,h,List.flatMap_append,List.foldl_append]
 simp
def upS (l:List (Int×Int)):Int:=(l.map fun p=>max p.2 0).sum
def dnS (l:List (Int×Int)):Int:=(l.map fun p=>max (-p.2) 0).sum
def ndk (l:List (Int×Int)):Prop:=(l.map (·.1)).Nodup
theorem a2y {l:List (Int×Int)} {v:Int} (h:v∉l.map (·.1)):B5 l v=none:=by
 induction l with
 | nil=>rfl
 | cons p l ih =>
  obtain ⟨k,x⟩:=p
  rw [List.map_cons,List.mem_cons,not_or] at h
  rw [B5,if_neg (fun e=>h.1 e.symm),ih h.2]
theorem b3T {l:List (Int×Int)} {v y u:Int} (h:u∈(R7 l v y).map (·.1)):u=v∨u∈l.map (·.1):=by
 induction l with
 | nil=>simp [R7] at h;exact .inl h
 | cons p l ih =>
  obtain ⟨k,x⟩:=p
  rw [R7] at h
  split at h
  ·rename_i e
   rw [List.map_cons,List.mem_cons] at h ⊢
   rcases h with h | h
   ·exact .inl h
   ·exact .inr (.inr h)
  ·rw [List.map_cons,List.mem_cons] at h ⊢
   rcases h with h | h
   ·exact .inr (.inl h)
   ·rcases ih h with h | h
    ·exact .inl h
    ·exact .inr (.inr h)
theorem b6s {l:List (Int×Int)} (h:ndk l) (v y:Int):ndk (R7 l v y)∧upS (R7 l v y)=upS l+(max y 0-max (C3 l v) 0)∧dnS (R7 l v y)=dnS l+(max (-y) 0-max (-(C3 l v)) 0):=by
 induction l with
 | nil=>exact ⟨by simp [R7,ndk],by simp [R7,upS,C3,B5],by simp [R7,dnS,C3,B5]⟩
 | cons p l ih =>
  obtain ⟨k,x⟩:=p
  unfold ndk at h
  rw [List.map_cons,List.nodup_cons] at h
  rw [R7]
  by_cases e:k=v
  ·rw [if_pos e]
   have hg:C3 ((k,x)::l) v=x:=by unfold C3 B5;rw [if_pos e];rfl
   rw [hg]
   refine ⟨by unfold ndk;rw [List.map_cons,List.nodup_cons];exact e▸h,?_,?_⟩
   ·simp only [upS,List.map_cons,List.sum_cons];omega
   ·simp only [dnS,List.map_cons,List.sum_cons];omega
  ·rw [if_neg e]
   have hg:C3 ((k,x)::l) v=C3 l v:=by unfold C3;rw [B5,if_neg e]
   obtain ⟨h1,h2,h3⟩:=ih h.2
   rw [hg]
   refine ⟨?_,?_,?_⟩
   ·unfold ndk
    rw [List.map_cons,List.nodup_cons]
    refine ⟨fun hm=>?_,h1⟩
    rcases b3T hm with hm | hm
    ·exact e hm
    ·exact h.1 hm
   ·unfold upS at h2 ⊢;rw [List.map_cons,List.sum_cons,h2,List.map_cons,List.sum_cons];omega
   ·unfold dnS at h3 ⊢;rw [List.map_cons,List.sum_cons,h3,List.map_cons,List.sum_cons];omega
theorem b4P {l:List (Int×Int)} (h:ndk l):0≤upS l∧(upS l=0↔∀ v,C3 l v≤0):=by
 induction l with
 | nil=>exact ⟨by simp [upS],by simp [upS,C3,B5]⟩
 | cons p l ih =>
  obtain ⟨k,x⟩:=p
  unfold ndk at h
  rw [List.map_cons,List.nodup_cons] at h
  obtain ⟨h1,h2⟩:=ih h.2
  have e:upS ((k,x)::l)=max x 0+upS l:=by simp [upS]
  rw [e]
  refine ⟨by omega,?_⟩
  constructor
  ·intro h3 v
   have h4:=h2.1 (by omega) v
   unfold C3 at h4 ⊢
   rw [B5]
   split
   ·show x≤0;omega
   ·exact h4
  ·intro h3
   have hx:=h3 k
   unfold C3 at hx
   rw [B5,if_pos rfl] at hx
   have hx:x≤0:=hx
   have:=h2.2 fun v=>by
    by_cases hv:k=v
    ·subst hv
     unfold C3
     rw [a2y h.1]
     exact Int.le_refl 0
    ·have:=h3 v
     unfold C3 at this ⊢
     rw [B5,if_neg hv] at this
     exact this
   omega
theorem b5e {l:List (Int×Int)} (h:ndk l):0≤dnS l∧(dnS l=0↔∀ v,0≤C3 l v):=by
 induction l with
 | nil=>exact ⟨by simp [dnS],by simp [dnS,C3,B5]⟩
 | cons p l ih =>
  obtain ⟨k,x⟩:=p
  unfold ndk at h
  rw [List.map_cons,List.nodup_cons] at h
  obtain ⟨h1,h2⟩:=ih h.2
  have e:dnS ((k,x)::l)=max (-x) 0+dnS l:=by simp [dnS]
  rw [e]
  refine ⟨by omega,?_⟩
  constructor
  ·intro h3 v
   have h4:=h2.1 (by omega) v
   unfold C3 at h4 ⊢
   rw [B5]
   split
   ·show 0≤x;omega
   ·exact h4
  ·intro h3
   have hx:=h3 k
   unfold C3 at hx
   rw [B5,if_pos rfl] at hx
   have hx:0≤x:=hx
   have:=h2.2 fun v=>by
    by_cases hv:k=v
    ·subst hv
     unfold C3
     rw [a2y h.1]
     exact Int.le_refl 0
    ·have:=h3 v
     unfold C3 at this ⊢
     rw [B5,if_neg hv] at this
     exact this
   omega
structure Ss (s:Sc) (z:Int) (D:Int→Int):Prop where
 sz:s.sz=z
 nd:ndk s.mp
 sp:s.sp=upS s.mp
 lk:s.lk=dnS s.mp
 at_:∀ v,C3 s.mp v=D v
theorem Ss.addV {s:Sc} {z:Int} {D:Int→Int} (h:Ss s z D) (v σ:Int):Ss (B9 s v σ) z (fun u=>D u+if v=u then σ else 0):=by
 obtain ⟨h1,h2,h3⟩:=b6s h.nd v (C3 s.mp v+σ)
 refine ⟨h.sz,h1,?_,?_,fun u=>?_⟩
 ·show s.sp+_=upS (R7 _ _ _);rw [h2,h.sp]
 ·show s.lk+_=dnS (R7 _ _ _);rw [h3,h.lk]
 ·show C3 (R7 _ _ _) u=_
  rw [a8a]
  split
  ·rename_i e;subst e;rw [h.at_]
  ·rw [h.at_];omega
theorem b4J {σ:Int} {s:Sc} {t:Tm} (h:t.f<0):a6m σ s t=B9 ⟨s.sz+σ,s.mp,s.sp,s.lk⟩ (-1-t.f) σ:=if_pos h
theorem b5t {σ:Int} {s:Sc} {t:Tm} (h:¬ t.f<0):a6m σ s t=⟨s.sz+σ,s.mp,s.sp,s.lk⟩:=if_neg h
theorem Ss.fold {σ:Int}:∀ {l:List Tm} {s:Sc} {z:Int} {D:Int→Int},Ss s z D→Ss (l.foldl (a6m σ) s) (z+σ*l.length) (fun v=>D v+σ*((vsL l).count v:Int))
 | [],s,z,D,h=>by
  refine ⟨by show s.sz=_;rw [h.sz];simp,h.nd,h.sp,h.lk,fun v=>?_⟩
  show C3 s.mp v=_
  rw [h.at_];simp [vsL]
 | t::l,s,z,D,h=>by
  rw [List.foldl_cons]
  have h0:Ss ⟨s.sz+σ,s.mp,s.sp,s.lk⟩ (z+σ) D:=⟨by show s.sz+σ=_;rw [h.sz],h.nd,h.sp,h.lk,h.at_⟩
  have e1:σ*((t::l).length:Int)=σ+σ*(l.length:Int):=by
   rw [List.length_cons];push_cast;rw [Int.mul_add];omega
  by_cases hf:t.f<0
  ·have h1:=(h0.addV (-1-t.f) σ).fold (σ:=σ) (l:=l)
   rw [b4J hf]
   refine ⟨?_,h1.nd,h1.sp,h1.lk,fun v=>?_⟩
   ·rw [h1.sz,e1];omega
   ·rw [h1.at_]
    have e2:(vsL (t::l)).count v=(if -1-t.f=v then 1 else 0)+(vsL l).count v:=by
     unfold vsL
     rw [List.filter_cons,if_pos (by simpa using hf),List.map_cons,List.count_cons]
     simp only [beq_iff_eq]
     omega
    rw [e2]
    split
    ·push_cast;rw [Int.mul_add];omega
    ·push_cast;rw [Int.mul_add];omega
  ·have h1:=h0.fold (σ:=σ) (l:=l)
   rw [b5t hf]
   refine ⟨?_,h1.nd,h1.sp,h1.lk,fun v=>?_⟩
   ·rw [h1.sz,e1];omega
   ·rw [h1.at_]
    have e2:vsL (t::l)=vsL l:=by
     unfold vsL
     rw [List.filter_cons,if_neg (by simpa using hf)]
    rw [e2]
end Go.Proofs.YtglmoficcjphaaaGreat
namespace Go.Proofs.YtglmoficcjphaaaGreat
open Go.RowKit
set_option linter.unusedVariables false
set_option linter.unusedSimpArgs false
set_option maxRecDepth 100000
noncomputable def mrv (p:Int×Int):CV := .row [.i p.1,.i p.2]
theorem a0X (l:List (Int×Int)):x6 .i64 (l.map mrv):=fun r hr=>by
 obtain ⟨p,_,rfl⟩:=List.mem_map.1 hr
 exact ⟨p.1,.i p.2,rfl⟩
theorem b6S (l:List (Int×Int)) (v:Int):E3 .i64 v (l.map mrv)=(B5 l v).map CV.i:=by
 induction l with
 | nil=>rfl
 | cons p l ih =>
  obtain ⟨k,x⟩:=p
  rw [List.map_cons,mrv,O0,B5]
  split
  ·rfl
  ·exact ih
theorem b9p (l:List (Int×Int)) (v:Int):(E3 .i64 v (l.map mrv)).getD (.sc (.int .i64 0)) = .i (C3 l v):=by
 rw [b6S]
 unfold C3
 cases B5 l v<;>rfl
theorem b5w (l:List (Int×Int)) (v y:Int):a1O .i64 v (.i y) (l.map mrv)=(R7 l v y).map mrv:=by
 induction l with
 | nil=>rfl
 | cons p l ih =>
  obtain ⟨k,x⟩:=p
  rw [List.map_cons,mrv,a3C,R7]
  split
  ·rfl
  ·rw [List.map_cons,ih];rfl
noncomputable def mB (l:List (Int×Int)):AV:=⟨if l=[] then 17 else 14,.lst (l.map mrv),0,0,[]⟩
noncomputable abbrev sst (s:Sc):AS:=[(450001,.obj),(35500100,.val (.i s.sz)),(35500101,.mref 300001),(35500102,.val (.i s.sp)),(35500103,.val (.i s.lk)),(300001,mB s.mp)]
noncomputable abbrev c0a (z p k:Int):AS:=[(450001,.obj),(35500100,.val (.i z)),(35500101,.mref 300001),(35500102,.val (.i p)),(35500103,.val (.i k)),(300001,.nmap)]
noncomputable abbrev b7T (z:Int) (l:List (Int×Int)) (p k:Int):AS:=[(450001,.obj),(35500100,.val (.i z)),(35500101,.mref 300001),(35500102,.val (.i p)),(35500103,.val (.i k)),(300001,.mp (l.map mrv))]
theorem b3r {s:Sc} (h:s.mp=[]):sst s=c0a s.sz s.sp s.lk:=by simp only [sst,mB,h,if_true];rfl
theorem b3x {s:Sc} (h:s.mp≠[]):sst s=b7T s.sz s.mp s.sp s.lk:=by simp only [sst,mB,if_neg h]
theorem y0 (s:Sc):(sst s).all E2=true:=by
 by_cases h:s.mp=[]
 ·rw [b3r h];kernel_rfl
 ·rw [b3x h];kernel_rfl
theorem s6 (s:Sc):(sst s).all (F4 (kO (sst s)))=true:=by
 by_cases h:s.mp=[]
 ·rw [b3r h];kernel_rfl
 ·rw [b3x h];kernel_rfl
structure Bds (s:Sc) (n:Nat):Prop where
 sz : -(n:Int)≤s.sz∧s.sz≤n
 sp : -(n:Int)≤s.sp∧s.sp≤n
 lk : -(n:Int)≤s.lk∧s.lk≤n
 at_:∀ v,-(n:Int)≤C3 s.mp v∧C3 s.mp v≤n
theorem Bds.node {s:Sc} {n:Nat} {σ:Int} (h:Bds s n) (hσ:σ=1∨σ = -1) (t:Tm):Bds (a6m σ s t) (n+1):=by
 obtain ⟨h1,h2,h3,h4⟩:=h
 unfold a6m
 split
 ·unfold B9
  have:=h4 (-1-t.f)
  refine ⟨by show _≤s.sz+σ∧s.sz+σ≤_;omega,by simp only;omega,by simp only;omega,fun v=>?_⟩
  simp only
  rw [a8a]
  have:=h4 v
  split<;>omega
 ·exact ⟨by show _≤s.sz+σ∧s.sz+σ≤_;omega,by simp only;omega,by simp only;omega,fun v=>by have:=h4 v;simp only;omega⟩
theorem Bds.fold {σ:Int} (hσ:σ=1∨σ = -1):∀ {l:List Tm} {s:Sc} {n:Nat},Bds s n→Bds (l.foldl (a6m σ) s) (n+l.length)
 | [],s,n,h=>h
 | t::l,s,n,h=>by
  rw [List.foldl_cons,List.length_cons,show n+(l.length+1)=n+1+l.length by omega]
  exact (h.node hσ t).fold hσ
theorem Bds.addL {σ:Int} (hσ:σ=1∨σ = -1) {l:List Tm} {s:Sc} {n:Nat} (h:Bds s n):Bds (addL σ s l) (n+(l.flatMap Tm.flat).length):=h.fold hσ
theorem Bds.addT {σ:Int} (hσ:σ=1∨σ = -1) {t:Tm} {s:Sc} {n:Nat} (h:Bds s n):Bds (addT σ s t) (n+t.size):=h.fold hσ
theorem K0 (W:World) (t:Tm):AFun Tryz.prog W 155 [t.cw] (.val (.b (decide (t.f<0)))):=by
 refine f0 (rs:=[.b (decide (t.f<0))]) Tryz.func155 Tryz.ntmps155 rfl rfl rfl rfl ?_
 intro w U hW
 refine aS (aR ?_)
 refine nc zd (nc ze ?_)
 refine aS (aR ?_)
 refine nc zg (nc zh (nc zi (nc ze ?_)))
 exact aT ⟨.inr rfl,rfl⟩
theorem a7i (W:World) (t:Tm) (h1 : -9223372036854775808≤t.f) (h2:t.f<0):AFun Tryz.prog W 157 [t.cw] (.val (.i (-1-t.f))):=by
 refine f0 (rs:=[.i (-1-t.f)]) Tryz.func157 Tryz.ntmps157 rfl rfl rfl rfl ?_
 intro w U hW
 refine aS (aR ?_)
 refine nc zd (nc ze ?_)
 refine aS (aR ?_)
 refine nc zg (nc zh (nc zj (nc ze ?_)))
 exact aT ⟨.inr rfl,rfl⟩
theorem a2X (W:World) (t:Tm):AFun Tryz.prog W 141 [t.cw] (.val (.lst (t.ps.map Tm.cv))):=by
 refine f0 (rs:=[.lst (t.ps.map Tm.cv)]) Tryz.func141 Tryz.ntmps141 rfl rfl rfl rfl ?_
 intro w U hW
 refine aS (aR ?_)
 refine nc zd (nc ze ?_)
 refine aS (aS (aR ?_))
 refine nc zy (nc (zw (z:=K0 w t)) ?_)
 refine aC rfl (fun hc=>?_) (fun hc=>?_)
 ·have hf:t.f<0:=by simpa using hc
  rw [Tm.ps_of_var hf]
  refine aS (aR ?_)
  refine nc ze ?_
  exact aT ⟨.inr rfl,rfl⟩
 ·have hf:¬ t.f<0:=by simpa using hc
  rw [Tm.ps_of_sym (by omega)]
  refine aK ?_
  refine aS (aR ?_)
  refine nc zg (nc zh (nc ze ?_))
  exact aT ⟨.inr rfl,rfl⟩
theorem a5J (s:Sc) (n:Nat) (hb:Bds s n) (hn:n≤1000000000000) (v σ:Int) (hσ:σ=1∨σ = -1) (hm:s.mp=[]):p9 Tryz.prog 156 (c0a s.sz s.sp s.lk) [.bp 350001 0 [],.val (.i v),.val (.i σ)] (.tup []) (b7T s.sz (B9 s v σ).mp (B9 s v σ).sp (B9 s v σ).lk):=by
 have hb2:=hb.sp
 have hb3:=hb.lk
 have hb4:=hb.at_ v
 have hg:C3 [] v=C3 s.mp v:=by rw [hm]
 obtain ⟨was,hwas⟩:∃ was,was=C3 s.mp v:=⟨_,rfl⟩
 rw [←hwas] at hb4
 refine k9 Tryz.func156 Tryz.ntmps156 rfl rfl rfl rfl rfl rfl ?_
 intro w U hU
 refine aS (aS (aR ?_))
 refine nc zl (nc z4 (nc zg (nc z5 (nc zbr ?_))))
 refine aC rfl (fun hc=>?_) (fun hc=>by cases hc)
 refine aR ?_
 refine nc zl (ne (zbs 300002) (nc z4 (nc zg (nc zba ?_))))
 refine aS (aR ?_)
 refine ne zl (ne z4 ?_)
 (first | (refine nx (aF (gN rfl) rfl rfl rfl rfl rfl rfl rfl rfl rfl) (by first | rfl | kernel_rfl) ?_) | (refine nx (v9 (gN rfl) rfl rfl rfl rfl rfl rfl rfl rfl rfl rfl rfl) (by first | rfl | kernel_rfl) ?_) | (refine nx (D8 (gN rfl) rfl rfl rfl rfl rfl rfl rfl rfl rfl) (by first | rfl | kernel_rfl) ?_))
 (first | (refine nx (aL (gN rfl) rfl rfl rfl rfl rfl rfl rfl rfl rfl rfl rfl rfl) (by first | rfl | kernel_rfl) ?_) | (refine nx (q7 (gN rfl) rfl rfl rfl rfl rfl rfl rfl rfl rfl rfl rfl rfl rfl) (by first | rfl | kernel_rfl) ?_) | (refine nx (aLb (gN rfl) rfl rfl rfl rfl rfl rfl rfl rfl rfl rfl rfl rfl) (by first | rfl | kernel_rfl) ?_) | (refine nx (t7 (gN rfl) rfl rfl rfl rfl rfl rfl rfl rfl rfl) (by first | rfl | kernel_rfl) ?_) | (refine nx (q6 (gN rfl) rfl rfl rfl rfl rfl rfl rfl rfl rfl) (by first | rfl | kernel_rfl) ?_) | (refine nx (aLf (gN rfl) rfl rfl rfl rfl rfl rfl rfl rfl rfl rfl rfl rfl rfl) (by first | rfl | kernel_rfl) ?_) | (refine nx (a_load_fullv (gN rfl) rfl rfl rfl rfl rfl rfl rfl rfl rfl) (by first | rfl | kernel_rfl) ?_))
 refine ne zl (ne (zbt (H :=  a0X [])) (ne ze ?_))
 refine AWp.wk (a7 (s':=[(0,AV.bp 350001 0 []),(1,.val (.i v)),(2,.val (.i σ)),(6,.val (.i was)),(450001,.obj),(35500100,.val (.i s.sz)),(35500101,.mref 300002),(35500102,.val (.i s.sp)),(35500103,.val (.i s.lk)),(300002,.mp (([]:List (Int×Int)).map mrv))]) ⟨rfl,rfl,rfl,?_,rfl,rfl,rfl,rfl,rfl,rfl,trivial⟩) ?_
 ·rw [hwas,←hg];rfl
 refine aS (aR ?_)
 refine nc zl (nc zl (nc zu (nc ze ?_)))
 refine aS (aR ?_)
 refine ne zl (ne z4 ?_)
 (first | (refine nx (aF (gN rfl) rfl rfl rfl rfl rfl rfl rfl rfl rfl) (by first | rfl | kernel_rfl) ?_) | (refine nx (v9 (gN rfl) rfl rfl rfl rfl rfl rfl rfl rfl rfl rfl rfl) (by first | rfl | kernel_rfl) ?_) | (refine nx (D8 (gN rfl) rfl rfl rfl rfl rfl rfl rfl rfl rfl) (by first | rfl | kernel_rfl) ?_))
 (first | (refine nx (aL (gN rfl) rfl rfl rfl rfl rfl rfl rfl rfl rfl rfl rfl rfl) (by first | rfl | kernel_rfl) ?_) | (refine nx (q7 (gN rfl) rfl rfl rfl rfl rfl rfl rfl rfl rfl rfl rfl rfl rfl) (by first | rfl | kernel_rfl) ?_) | (refine nx (aLb (gN rfl) rfl rfl rfl rfl rfl rfl rfl rfl rfl rfl rfl rfl) (by first | rfl | kernel_rfl) ?_) | (refine nx (t7 (gN rfl) rfl rfl rfl rfl rfl rfl rfl rfl rfl) (by first | rfl | kernel_rfl) ?_) | (refine nx (q6 (gN rfl) rfl rfl rfl rfl rfl rfl rfl rfl rfl) (by first | rfl | kernel_rfl) ?_) | (refine nx (aLf (gN rfl) rfl rfl rfl rfl rfl rfl rfl rfl rfl rfl rfl rfl rfl) (by first | rfl | kernel_rfl) ?_) | (refine nx (a_load_fullv (gN rfl) rfl rfl rfl rfl rfl rfl rfl rfl rfl) (by first | rfl | kernel_rfl) ?_))
 refine ne zl (ne zl (ne (zbe (G:=a0X [])) ?_))
 refine aS (aR ?_)
 refine nc zl (nc z4 (nc zg (nc z5 (nc zl (nc zbu (nc zl (nc zbu (nc zj (nc zu (nc z4 (nc zg (nc zba ?_))))))))))))
 refine aR ?_
 refine nc zl (nc z4 (nc zg (nc z5 (nc zl (nc zbv (nc zbu (nc zl (nc zbv (nc zbu (nc zj (nc zu (nc z4 (nc zg (nc zba ?_))))))))))))))
 refine ⟨.inl rfl,_,(a7 (s':=[(450001,.obj),(35500100,.val (.i s.sz)),(35500101,.mref 300002),(35500102,.val (.i (B9 s v σ).sp)),(35500103,.val (.i (B9 s v σ).lk)),(300002,.mp ((B9 s v σ).mp.map mrv))]) ⟨rfl,rfl,rfl,?_,?_,?_,trivial⟩).trans (A8 300002 300001 rfl rfl (by kernel_rfl) (by kernel_rfl)),rfl,rfl,rfl,rfl,rfl,rfl,rfl,trivial⟩
 ·unfold B9;rw [←hwas];rfl
 ·unfold B9;rw [←hwas];rfl
 ·unfold B9
  simp only
  rw [←hwas,hm,←b5w]
  rfl
theorem a5K (s:Sc) (n:Nat) (hb:Bds s n) (hn:n≤1000000000000) (v σ:Int) (hσ:σ=1∨σ = -1):p9 Tryz.prog 156 (b7T s.sz s.mp s.sp s.lk) [.bp 350001 0 [],.val (.i v),.val (.i σ)] (.tup []) (b7T s.sz (B9 s v σ).mp (B9 s v σ).sp (B9 s v σ).lk):=by
 have hb2:=hb.sp
 have hb3:=hb.lk
 have hb4:=hb.at_ v
 obtain ⟨was,hwas⟩:∃ was,was=C3 s.mp v:=⟨_,rfl⟩
 rw [←hwas] at hb4
 refine k9 Tryz.func156 Tryz.ntmps156 rfl rfl rfl rfl rfl rfl ?_
 intro w U hU
 refine aS (aS (aR ?_))
 refine nc zl (nc z4 (nc zg (nc z5 (nc zbw ?_))))
 refine aC rfl (fun hc=>by cases hc) (fun hc=>?_)
 refine aK ?_
 refine aS (aR ?_)
 refine ne zl (ne z4 ?_)
 (first | (refine nx (aF (gN rfl) rfl rfl rfl rfl rfl rfl rfl rfl rfl) (by first | rfl | kernel_rfl) ?_) | (refine nx (v9 (gN rfl) rfl rfl rfl rfl rfl rfl rfl rfl rfl rfl rfl) (by first | rfl | kernel_rfl) ?_) | (refine nx (D8 (gN rfl) rfl rfl rfl rfl rfl rfl rfl rfl rfl) (by first | rfl | kernel_rfl) ?_))
 (first | (refine nx (aL (gN rfl) rfl rfl rfl rfl rfl rfl rfl rfl rfl rfl rfl rfl) (by first | rfl | kernel_rfl) ?_) | (refine nx (q7 (gN rfl) rfl rfl rfl rfl rfl rfl rfl rfl rfl rfl rfl rfl rfl) (by first | rfl | kernel_rfl) ?_) | (refine nx (aLb (gN rfl) rfl rfl rfl rfl rfl rfl rfl rfl rfl rfl rfl rfl) (by first | rfl | kernel_rfl) ?_) | (refine nx (t7 (gN rfl) rfl rfl rfl rfl rfl rfl rfl rfl rfl) (by first | rfl | kernel_rfl) ?_) | (refine nx (q6 (gN rfl) rfl rfl rfl rfl rfl rfl rfl rfl rfl) (by first | rfl | kernel_rfl) ?_) | (refine nx (aLf (gN rfl) rfl rfl rfl rfl rfl rfl rfl rfl rfl rfl rfl rfl rfl) (by first | rfl | kernel_rfl) ?_) | (refine nx (a_load_fullv (gN rfl) rfl rfl rfl rfl rfl rfl rfl rfl rfl) (by first | rfl | kernel_rfl) ?_))
 refine ne zl (ne (zbt (H :=  a0X _)) (ne ze ?_))
 refine AWp.wk (a7 (s':=[(0,AV.bp 350001 0 []),(1,.val (.i v)),(2,.val (.i σ)),(6,.val (.i was)),(450001,.obj),(35500100,.val (.i s.sz)),(35500101,.mref 300001),(35500102,.val (.i s.sp)),(35500103,.val (.i s.lk)),(300001,.mp (s.mp.map mrv))]) ⟨rfl,rfl,rfl,?_,rfl,rfl,rfl,rfl,rfl,rfl,trivial⟩) ?_
 ·rw [hwas,←b9p];rfl
 refine aS (aR ?_)
 refine nc zl (nc zl (nc zu (nc ze ?_)))
 refine aS (aR ?_)
 refine ne zl (ne z4 ?_)
 (first | (refine nx (aF (gN rfl) rfl rfl rfl rfl rfl rfl rfl rfl rfl) (by first | rfl | kernel_rfl) ?_) | (refine nx (v9 (gN rfl) rfl rfl rfl rfl rfl rfl rfl rfl rfl rfl rfl) (by first | rfl | kernel_rfl) ?_) | (refine nx (D8 (gN rfl) rfl rfl rfl rfl rfl rfl rfl rfl rfl) (by first | rfl | kernel_rfl) ?_))
 (first | (refine nx (aL (gN rfl) rfl rfl rfl rfl rfl rfl rfl rfl rfl rfl rfl rfl) (by first | rfl | kernel_rfl) ?_) | (refine nx (q7 (gN rfl) rfl rfl rfl rfl rfl rfl rfl rfl rfl rfl rfl rfl rfl) (by first | rfl | kernel_rfl) ?_) | (refine nx (aLb (gN rfl) rfl rfl rfl rfl rfl rfl rfl rfl rfl rfl rfl rfl) (by first | rfl | kernel_rfl) ?_) | (refine nx (t7 (gN rfl) rfl rfl rfl rfl rfl rfl rfl rfl rfl) (by first | rfl | kernel_rfl) ?_) | (refine nx (q6 (gN rfl) rfl rfl rfl rfl rfl rfl rfl rfl rfl) (by first | rfl | kernel_rfl) ?_) | (refine nx (aLf (gN rfl) rfl rfl rfl rfl rfl rfl rfl rfl rfl rfl rfl rfl rfl) (by first | rfl | kernel_rfl) ?_) | (refine nx (a_load_fullv (gN rfl) rfl rfl rfl rfl rfl rfl rfl rfl rfl) (by first | rfl | kernel_rfl) ?_))
 refine ne zl (ne zl (ne (zbe (G:=a0X _)) ?_))
 refine aS (aR ?_)
 refine nc zl (nc z4 (nc zg (nc z5 (nc zl (nc zbu (nc zl (nc zbu (nc zj (nc zu (nc z4 (nc zg (nc zba ?_))))))))))))
 refine aR ?_
 refine nc zl (nc z4 (nc zg (nc z5 (nc zl (nc zbv (nc zbu (nc zl (nc zbv (nc zbu (nc zj (nc zu (nc z4 (nc zg (nc zba ?_))))))))))))))
 refine ⟨.inl rfl,_,(a7 (s':=b7T s.sz (B9 s v σ).mp (B9 s v σ).sp (B9 s v σ).lk) ⟨rfl,rfl,rfl,?_,?_,?_,trivial⟩),rfl,rfl,rfl,rfl,rfl,rfl,rfl,trivial⟩
 ·unfold B9;rw [←hwas];rfl
 ·unfold B9;rw [←hwas];rfl
 ·unfold B9
  simp only
  rw [←hwas,←b5w]
  rfl
theorem a7h (s:Sc) (n:Nat) (hb:Bds s n) (hn:n≤1000000000000) (v σ:Int) (hσ:σ=1∨σ = -1):p9 Tryz.prog 156 (sst s) [.bp 350001 0 [],.val (.i v),.val (.i σ)] (.tup []) (sst (B9 s v σ)):=by
 rw [b3x (s:=B9 s v σ) (b6z _ _ _)]
 by_cases h:s.mp=[]
 ·rw [b3r h];exact a5J s n hb hn v σ hσ h
 ·rw [b3x h];exact a5K s n hb hn v σ hσ
def c1j (σ:Int) (t:Tm):Prop:=∀ (s:Sc) (n:Nat),Bds s n→n+t.size≤1000000000000→p9 Tryz.prog 142 (sst s) [.bp 350001 0 [],.val t.cw,.val (.i σ)] (.tup []) (sst (addT σ s t))
theorem a3r (σ:Int) (hσ:σ=1∨σ = -1) (l:List Tm) (hl:l.length≤1000000000000) (ih:∀ t∈l,c1j σ t) (s:Sc) (n:Nat) (hb:Bds s n) (hn:n+(l.flatMap Tm.flat).length≤1000000000000):p9 Tryz.prog 145 (sst s) [.bp 350001 0 [],.val (.lst (l.map Tm.cv)),.val (.i σ)] (.tup []) (sst (addL σ s l)):=by
 have hsz:=Tm.size_all l
 refine k9 Tryz.func145 Tryz.ntmps145 rfl rfl rfl rfl rfl rfl ?_
 intro w U hU
 refine aS (aR ?_)
 refine nc zl (nc zp (nc zl ?_))
 refine aB (p7 l.length (fun k=>(0,.bp 350001 0 [])::(2,.val (.i σ))::(8,.val (.lst (l.map Tm.cv)))::(9,.val (.i (l.map Tm.cv).length))::(10,.val (.i k))::sst (addL σ s (l.take k))) (a7 ⟨rfl,rfl,rfl,rfl,rfl,rfl,rfl,rfl,rfl,rfl,rfl,trivial⟩) ?_)
 intro k hk
 refine aS (aR ?_)
 refine nc zi ?_
 refine aS (aC rfl (fun hlt=>?_) (fun hlt=>?_))
 ·have hkl:k<l.length:=by simpa using hlt
  obtain ⟨x,hx⟩:∃ x,l[k]?=some x:=⟨l[k],List.getElem?_eq_getElem hkl⟩
  have hx':=Tm.map_at hx
  have hxm:=List.mem_of_getElem? hx
  obtain ⟨sk,hsk⟩:∃ sk,sk=addL σ s (l.take k):=⟨_,rfl⟩
  have hbk:Bds sk (n+((l.take k).flatMap Tm.flat).length):=by rw [hsk];exact hb.addL hσ
  have hnk:n+((l.take k).flatMap Tm.flat).length+x.size≤1000000000000:=by
   have h2:(l.flatMap Tm.flat).length=((l.take k).flatMap Tm.flat).length+((l.drop k).flatMap Tm.flat).length:=by
    conv=>lhs;rw [←List.take_append_drop k l]
    rw [List.flatMap_append,List.length_append]
   have h3:x.flat.length≤((l.drop k).flatMap Tm.flat).length:=Q1 Tm.flat (List.mem_of_getElem? (i:=0) (by rw [List.getElem?_drop];simpa using hx))
   unfold Tm.size
   omega
  have hstep:=b2e (σ:=σ) (s:=s) hx
  rw [←hsk] at hstep
  rw [←hsk]
  refine aK ?_
  refine aS (aB (aS (aR ?_)))
  refine nc (zq (j:=k) (H:=hx') (hz:=hsz)) (nc zr (ne zk (nc zo ?_)))
  refine aR ?_
  refine nc zl (nc zy (nc zl (nc (z0 (z:=ih x hxm sk _ hbk hnk) (B:=y0 _) (C:=s6 _) (G:=i7 (by first | rfl | kernel_rfl))) ?_)))
  refine aR ?_
  refine nc zu (nc zl ?_)
  refine ⟨hkl,a7 ⟨rfl,rfl,rfl,rfl,rfl,rfl,?_,rfl,?_,?_,?_,trivial⟩⟩
  all_goals (rw [hstep];rfl)
 ·have hkl:k=l.length:=by
   have:¬ k<l.length:=by simpa using hlt
   omega
  subst hkl
  rw [List.take_length]
  refine aE ?_
  exact ⟨.inl rfl,_,Wk.refl _,rfl,rfl,rfl,rfl,rfl,rfl,rfl,trivial⟩
theorem U4 (σ:Int) (hσ:σ=1∨σ = -1):∀ t:Tm,t.rng→t.ok→c1j σ t:=by
 intro t
 induction t using Tm.ind with
 | h f l ih =>
 intro hr hok s n hb hn
 have hok:=(Tm.ok_iff _).1 hok
 have hr:=(Tm.rng_iff _).1 hr
 simp only at hok hr
 have hb1:=hb.sz
 have hsp:=Tm.size_pos ⟨f,l⟩
 refine k9 Tryz.func142 Tryz.ntmps142 rfl rfl rfl rfl rfl rfl ?_
 intro w U hU
 refine aS (aR ?_)
 refine ne zd ?_
 refine aS (aR ?_)
 refine nc zl (nc z4 (nc zg (nc z5 (nc zl (nc zu (nc z4 (nc zg (nc zba ?_))))))))
 obtain ⟨s1,hs1⟩:∃ s1:Sc,s1=⟨s.sz+σ,s.mp,s.sp,s.lk⟩:=⟨_,rfl⟩
 have hb':Bds s1 (n+1):=by
  obtain ⟨b1,b2,b3,b4⟩:=hb
  rw [hs1]
  exact ⟨by show _≤s.sz+σ∧s.sz+σ≤_;omega,by simp only;omega,by simp only;omega,fun v=>by have:=b4 v;simp only;omega⟩
 refine AWp.wk (a7 (s':=(0,AV.bp 350001 0 [])::(2,.val (.i σ))::(4,.bp 4 0 [])::(100004,.bx (Tm.cw ⟨f,l⟩))::sst s1) ⟨rfl,rfl,rfl,rfl,rfl,?_,rfl,?_,?_,?_,trivial⟩) ?_
 ·rw [hs1];rfl
 ·rw [hs1];rfl
 ·rw [hs1];rfl
 ·rw [hs1];rfl
 refine aS (aS (aR ?_))
 refine nc zy ?_
 refine nc (zw (z:=K0 w ⟨f,l⟩)) ?_
 refine aC rfl (fun hc=>?_) (fun hc=>?_)
 ·have hf:f<0:=by simpa using hc
  rw [b4n (t:=⟨f,l⟩) hf,←hs1]
  refine aS (aR ?_)
  refine nc zl (nc zy ?_)
  refine nc (zw (z:=a7i w ⟨f,l⟩ hr.1.1 hf)) ?_
  refine nc zl (nc (z0 (z:=a7h s1 (n+1) hb' (by omega) (-1-f) σ hσ) (B:=y0 _) (C:=s6 _) (G:=i7 (by first | rfl | kernel_rfl))) ?_)
  exact aT ⟨.inr rfl,_,Wk.refl _,rfl,rfl,rfl,rfl,rfl,rfl,rfl,trivial⟩
 ·have hf:¬ f<0:=by simpa using hc
  rw [b3J (t:=⟨f,l⟩) hf,←hs1]
  have hse:=Tm.size_eq ⟨f,l⟩
  rw [Tm.ps_of_sym (t:=⟨f,l⟩) (by show 0≤f;omega)] at hse
  simp only at hse
  have hlen:=Tm.len_ps ⟨f,l⟩
  rw [Tm.ps_of_sym (t:=⟨f,l⟩) (by show 0≤f;omega)] at hlen
  simp only at hlen
  refine aK ?_
  refine aR ?_
  refine nc zl (nc zg (nc zh (nc zl ?_)))
  refine nc (z0 (z:=a3r σ hσ l (by omega) (fun t ht=>ih t ht (hr.2 t ht) (hok.2 t ht)) s1 (n+1) hb' (by omega)) (B:=y0 _) (C:=s6 _) (G:=i7 (by first | rfl | kernel_rfl))) ?_
  exact ⟨.inl rfl,_,Wk.refl _,rfl,rfl,rfl,rfl,rfl,rfl,rfl,trivial⟩
theorem a1X (σ:Int) (hσ:σ=1∨σ = -1) (l:List Tm) (hl:l.length≤1000000000000) (hr:∀ t∈l,t.rng∧t.ok) (s:Sc) (n:Nat) (hb:Bds s n) (hn:n+(l.flatMap Tm.flat).length≤1000000000000):p9 Tryz.prog 145 (sst s) [.bp 350001 0 [],.val (.lst (l.map Tm.cv)),.val (.i σ)] (.tup []) (sst (addL σ s l)):=
 a3r σ hσ l hl (fun t ht=>U4 σ hσ t (hr t ht).1 (hr t ht).2) s n hb hn
def b3A (s:Sc) (w:Int):Int:=if s.sz≠0 then I7 s.sz 0 else w
def vdS (s:Sc) (w:Int):Int:=if (b3A s w=1∧0<s.lk)∨(b3A s w = -1∧0<s.sp) then 2 else b3A s w
theorem P7 (s:Sc) (x:Int):p9 Tryz.prog 143 (sst s) [.bp 350001 0 [],.val (.i x)] (.val (.i (vdS s x))) (sst s):=by
 refine k9 Tryz.func143 Tryz.ntmps143 rfl rfl rfl rfl rfl rfl ?_
 intro w U hU
 refine aS (aR ?_)
 refine nc ze ?_
 refine aS (aR ?_)
 refine nc zl (nc ze ?_)
 refine a5V ((0,AV.bp 350001 0 [])::(5,.val (.i (b3A s x)))::sst s) ?_ ?_
 ·unfold b3A
  refine aS (aR ?_)
  refine nc zl (nc z4 (nc zg (nc z5 (nc z7 ?_))))
  refine aC rfl (fun hc=>?_) (fun hc=>?_)
  ·have h:s.sz≠0:=by simpa using hc
   rw [if_pos h]
   refine aR ?_
   refine nc zl (nc z4 (nc zg (nc z5 (nc (zw (z:=a2R w s.sz 0)) (nc ze ?_)))))
   exact a7 ⟨rfl,rfl,rfl,rfl,rfl,rfl,rfl,rfl,trivial⟩
  ·have h:¬ s.sz≠0:=by simpa using hc
   rw [if_neg h]
   refine aK ?_
   exact a7 ⟨rfl,rfl,rfl,rfl,rfl,rfl,rfl,rfl,trivial⟩
 unfold vdS
 generalize b3A s x=o
 by_cases h1:o=1
 ·subst h1
  by_cases h2:0<s.lk
  ·have g:decide (s.lk>0)=true:=by simpa using h2
   rw [if_pos (.inl ⟨rfl,h2⟩)]
   refine aS (aS (aR ?_))
   refine nc zl (nc zt (nc zl (nc (zl (p:=gb)) (nc (z4 (r:=gb)) (nc (zg (r:=gb)) (nc (z5 (r:=gb)) (nc (zH (r:=gb)) (nc zM (nc zl (nc zbx (nc zbx (nc zbx (nc (zbx (p:=V1 rfl rfl rfl rfl)) (nc (zbx (p:=V1 rfl rfl rfl rfl)) (nc (zbx (p:=V1 rfl rfl rfl rfl)) (nc (zbx (p:=V1 rfl rfl rfl rfl)) (nc (zbx (p:=V1 rfl rfl rfl rfl)) (nc zbx (nc zM ?_)))))))))))))))))))
   refine aC rfl (fun hc=>?_) (fun hc=>by cases hc)
   refine aS (aR ?_)
   refine nc ze ?_
   exact aT ⟨.inr rfl,_,Wk.refl _,rfl,rfl,rfl,rfl,rfl,rfl,rfl,trivial⟩
  ·have g:decide (s.lk>0)=false:=by simpa using h2
   rw [if_neg (by omega)]
   refine aS (aS (aR ?_))
   refine nc zl (nc zt (nc zl (nc (zl (p:=gb)) (nc (z4 (r:=gb)) (nc (zg (r:=gb)) (nc (z5 (r:=gb)) (nc (zH (r:=gb)) (nc zM (nc zl (nc (zl (p:=gb)) (nc (zt (r:=gb)) (nc (zl (p:=gb)) (nc zbx (nc zbx (nc zbx (nc zbx (nc zbx (nc (zP (r:=gb)) (nc zP ?_)))))))))))))))))))
   refine aC rfl (fun hc=>by cases hc) (fun hc=>aK ?_)
   refine aS (aR ?_)
   refine nc zl (nc ze ?_)
   exact aT ⟨.inr rfl,_,Wk.refl _,rfl,rfl,rfl,rfl,rfl,rfl,rfl,trivial⟩
 ·have g1:decide (o=1)=false:=by simpa using h1
  by_cases h2:o = -1
  ·subst h2
   by_cases h3:0<s.sp
   ·have g:decide (s.sp>0)=true:=by simpa using h3
    rw [if_pos (.inr ⟨rfl,h3⟩)]
    refine aS (aS (aR ?_))
    refine nc zl (nc zt (nc zl (nc zbx (nc zbx (nc zbx (nc zbx (nc zbx (nc zP (nc zl (nc (zl (p:=gb)) (nc (zt (r:=gb)) (nc (zl (p:=gb)) (nc (zl (p:=gb)) (nc (z4 (r:=gb)) (nc (zg (r:=gb)) (nc (z5 (r:=gb)) (nc (zH (r:=gb)) (nc (zM (r:=gb)) (nc zP ?_)))))))))))))))))))
    refine aC rfl (fun hc=>?_) (fun hc=>by rw [g] at hc;cases hc)
    refine aS (aR ?_)
    refine nc ze ?_
    exact aT ⟨.inr rfl,_,Wk.refl _,rfl,rfl,rfl,rfl,rfl,rfl,rfl,trivial⟩
   ·have g:decide (s.sp>0)=false:=by simpa using h3
    rw [if_neg (by omega)]
    refine aS (aS (aR ?_))
    refine nc zl (nc zt (nc zl (nc zbx (nc zbx (nc zbx (nc zbx (nc zbx (nc zP (nc zl (nc (zl (p:=gb)) (nc (zt (r:=gb)) (nc (zl (p:=gb)) (nc (zl (p:=gb)) (nc (z4 (r:=gb)) (nc (zg (r:=gb)) (nc (z5 (r:=gb)) (nc (zH (r:=gb)) (nc (zM (r:=gb)) (nc zP ?_)))))))))))))))))))
    refine aC rfl (fun hc=>by rw [g] at hc;cases hc) (fun hc=>aK ?_)
    refine aS (aR ?_)
    refine nc zl (nc ze ?_)
    exact aT ⟨.inr rfl,_,Wk.refl _,rfl,rfl,rfl,rfl,rfl,rfl,rfl,trivial⟩
  ·have g2:decide (o = -1)=false:=by simpa using h2
   rw [if_neg (by omega)]
   refine aS (aS (aR ?_))
   refine nc zl (nc zt (nc zl (nc zbx (nc zbx (nc zbx (nc zbx (nc zbx (nc zP (nc zl (nc (zl (p:=gb)) (nc (zt (r:=gb)) (nc (zl (p:=gb)) (nc zbx (nc zbx (nc zbx (nc zbx (nc zbx (nc (zP (r:=gb)) (nc zP ?_)))))))))))))))))))
   refine aC rfl (fun hc=>by cases hc) (fun hc=>aK ?_)
   refine aS (aR ?_)
   refine nc zl (nc ze ?_)
   exact aT ⟨.inr rfl,_,Wk.refl _,rfl,rfl,rfl,rfl,rfl,rfl,rfl,trivial⟩
def orL:List Int→Int
 | []=>0
 | x::l=>if x≠0 then x else orL l
theorem b5E:∀ {l:List Int} {k:Nat} {x:Int},l[k]?=some x→x≠0→(∀ j y,j<k→l[j]?=some y→y=0)→orL l=x
 | [],k,x,h,_,_=>by simp at h
 | y::l,0,x,h,hx,_=>by
  simp at h
  subst h
  rw [orL,if_pos hx]
 | y::l,k+1,x,h,hx,hi=>by
  rw [orL,if_neg (by have:=hi 0 y (by omega) rfl;omega)]
  exact b5E (by simpa using h) hx fun j z hj hz=>hi (j+1) z (by omega) (by simpa using hz)
theorem a8W:∀ {l:List Int},(∀ x∈l,x=0)→orL l=0
 | [],_=>rfl
 | x::l,h=>by
  rw [orL,if_neg (by have:=h x (by simp);omega)]
  exact a8W fun y hy=>h y (List.mem_cons_of_mem _ hy)
theorem b6B (W:World) (l:List Int) (hl:l.length≤1000000000):AFun Tryz.prog W 158 [.lst (l.map CV.i)] (.val (.i (orL l))):=by
 have hsz:=t8 l
 refine f0 (rs:=[.i (orL l)]) Tryz.func158 Tryz.ntmps158 rfl rfl rfl rfl ?_
 intro w U hW
 refine aS (aR ?_)
 refine nc ze ?_
 refine aS (aR ?_)
 refine nc ze ?_
 refine aS (aS (aR ?_))
 refine nc zl (nc zp (nc zl ?_))
 refine aB (A9 l.length (fun k=>∀ j y,j<k→l[j]?=some y→y=0) (fun k=>[(3,.val (.i 0)),(6,.val (.lst (l.map CV.i))),(7,.val (.i (l.map CV.i).length)),(8,.val (.i k))]) (a7 ⟨rfl,rfl,rfl,rfl,trivial⟩) (fun j c hj=>by omega) ?_)
 intro k hk hI
 refine aS (aR ?_)
 refine nc zi ?_
 refine aS (aC rfl (fun hlt=>?_) (fun hlt=>?_))
 ·have hkl:k<l.length:=by simpa using hlt
  obtain ⟨x,hx⟩:∃ x,l[k]?=some x:=⟨l[k],List.getElem?_eq_getElem hkl⟩
  have hx':(l.map CV.i)[k]?=some (CV.i x):=by rw [List.getElem?_map,hx];rfl
  refine aK ?_
  refine aS (aB (aS (aR ?_)))
  refine nc (zq (j:=k) (H:=hx') (hz:=hsz)) (nc zr (nc ze ?_))
  refine aS (aR ?_)
  refine nc zl (nc zl (nc z7 ?_))
  refine aC rfl (fun hq=>?_) (fun hq=>?_)
  ·have hq:x≠0:=by simpa using hq
   refine aS (aR ?_)
   refine nc zl (nc ze ?_)
   rw [b5E hx hq hI]
   exact aT ⟨.inr rfl,rfl⟩
  ·have hq:x=0:=by simpa using hq
   refine aK ?_
   refine aR ?_
   refine nc zu (nc zl ?_)
   refine ⟨hkl,fun j c hj hc=>?_,a7 ⟨rfl,rfl,rfl,rfl,trivial⟩⟩
   rcases Nat.lt_or_ge j k with h | h
   ·exact hI j c h hc
   ·have:j=k:=by omega
    subst this
    rw [hx] at hc
    cases hc
    exact hq
 ·have hkl:¬ k<l.length:=by simpa using hlt
  rw [a8W (l:=l) fun x hx=>?_]
  ·refine aE ?_
   refine aS (aR ?_)
   refine nc zl (nc ze ?_)
   exact aT ⟨.inr rfl,rfl⟩
  ·obtain ⟨j,hj⟩:=List.getElem?_of_mem hx
   have hjl:j<l.length:=by
    rcases Nat.lt_or_ge j l.length with h | h
    ·exact h
    ·rw [List.getElem?_eq_none h] at hj;cases hj
   exact hI j x (by omega) hj
theorem c0Q {a b:Tm} (h:¬ (a.f<0∨b.f<0)):hdK a b=orL [I7 a.f b.f,I7 a.l.length b.l.length]:=by
 unfold hdK
 rw [if_neg h]
 simp only [orL]
 rcases o6 a.f b.f with h1 | h1 | h1
 ·rw [if_pos (by omega),if_pos (by omega)]
 ·rw [if_neg (by omega),if_neg (by omega)]
  split
  ·rfl
  ·omega
 ·rw [if_pos (by omega),if_pos (by omega)]
theorem a3B (W:World) (a b:Tm):AFun Tryz.prog W 144 [a.cw,b.cw] (.val (.i (hdK a b))):=by
 refine f0 (rs:=[.i (hdK a b)]) Tryz.func144 Tryz.ntmps144 rfl rfl rfl rfl ?_
 intro w U hW
 refine aS (aR ?_)
 refine nc zd (nc zd (nc ze ?_))
 by_cases ha:a.f<0
 ·have g:decide (a.f<0)=true:=by simpa using ha
  refine aS (aS (aR ?_))
  refine nc zy (nc (zw (z:=K0 w a)) (nc zl (nc zO (nc zO (nc zM ?_)))))
  refine aC rfl (fun hc=>?_) (fun hc=>by cases hc)
  unfold hdK
  rw [if_pos (.inl ha)]
  refine aS (aR ?_)
  refine nc ze ?_
  exact aT ⟨.inr rfl,rfl⟩
 have g:decide (a.f<0)=false:=by simpa using ha
 refine aS (aS (aR ?_))
 refine nc zy (nc (zw (z:=K0 w a)) (nc zl (nc (zy (p:=gb)) (nc (zw (p:=gb) (z:=K0 w b)) (nc zP ?_)))))
 refine aC rfl (fun hc=>?_) (fun hc=>?_)
 ·have hb:b.f<0:=by simpa using hc
  unfold hdK
  rw [if_pos (.inr hb)]
  refine aS (aR ?_)
  refine nc ze ?_
  exact aT ⟨.inr rfl,rfl⟩
 ·have hb:¬ b.f<0:=by simpa using hc
  rw [c0Q (by omega)]
  have e1:(a.l.map Tm.cv).length=a.l.length:=List.length_map ..
  have e2:(b.l.map Tm.cv).length=b.l.length:=List.length_map ..
  refine aK ?_
  refine aS (aD (by kernel_rfl) (by kernel_rfl) ?_)
  refine nc zg (nc zh (nc zg (nc zh (nc (zw (z:=a2R w a.f b.f)) (nc zg (nc zh (nc zp (nc zg (nc zh (nc zp (nc (zw (z:=a2R w _ _)) (nc zD (nc (zw (z:=b6B w [_,_] (by simp))) (nc ze ?_))))))))))))))
  refine ⟨by kernel_rfl,?_⟩
  rw [e1,e2]
  exact aT ⟨.inr rfl,rfl⟩
def emp:Sc:=⟨0,[],0,0⟩
noncomputable def a6U (c:Int) (s:Sc) (l m:List Tm) (r:Sc):Sc:=if c≠0 then addL (-1) (addL 1 s l) m else r
noncomputable def scS (p:Tm):Tm→Sc:=
 Tm.rec (motive_1:=fun _=>Tm→Sc) (motive_2:=fun _=>List Tm→Sc)
  (fun f l ih t=>if f≠t.f∨(Tm.mk f l).ps.length≠t.ps.length then addT (-1) (addT 1 emp ⟨f,l⟩) t else if f<0 then emp else ih t.l)
  (fun _=>emp)
  (fun x l ih1 ih2 ts=>match ts with | []=>emp | t::ts=>a6U (kb x t) (ih1 t) l ts (ih2 ts)) p
noncomputable def scs (ps:List Tm):List Tm→Sc:=
 Tm.rec_1 (motive_1:=fun _=>Tm→Sc) (motive_2:=fun _=>List Tm→Sc)
  (fun f l ih t=>if f≠t.f∨(Tm.mk f l).ps.length≠t.ps.length then addT (-1) (addT 1 emp ⟨f,l⟩) t else if f<0 then emp else ih t.l)
  (fun _=>emp)
  (fun x l ih1 ih2 ts=>match ts with | []=>emp | t::ts=>a6U (kb x t) (ih1 t) l ts (ih2 ts)) ps
theorem b6Q (m:List Tm):scs [] m=emp:=rfl
theorem a3V (x:Tm) (l:List Tm) (y:Tm) (m:List Tm):scs (x::l) (y::m)=a6U (kb x y) (scS x y) l m (scs l m):=rfl
theorem b0D {a b:Tm} (h:a.f≠b.f∨a.ps.length≠b.ps.length):scS a b=addT (-1) (addT 1 emp a) b:=by
 cases a
 show (if _ then _ else _)=_
 rw [if_pos h]
theorem b0p {a b:Tm} (h:¬ (a.f≠b.f∨a.ps.length≠b.ps.length)):scS a b=scs a.ps b.ps:=by
 cases a with
 | mk f l =>
  show (if _ then _ else _)=_
  rw [if_neg h]
  by_cases hf:f<0
  ·rw [if_pos hf,Tm.ps_of_var (t:=⟨f,l⟩) hf,b6Q]
  ·rw [if_neg hf,Tm.ps_of_sym (t:=⟨f,l⟩) (by show 0≤f;omega),Tm.ps_of_sym (t:=b) (by have:=Classical.not_not.1 (fun e=>h (.inl e));simp only at this;omega)]
   rfl
theorem b0y:∀ {l m:List Tm} {k:Nat} {x y:Tm},l[k]?=some x→m[k]?=some y→kb x y≠0→(∀ j u v,j<k→l[j]?=some u→m[j]?=some v→kb u v=0)→scs l m=addL (-1) (addL 1 (scS x y) (l.drop (k+1))) (m.drop (k+1))∧kbs l m=kb x y
 | [],_,k,x,y,h,_,_,_=>by simp at h
 | _::_,[],k,x,y,_,h,_,_=>by simp at h
 | u::l,v::m,0,x,y,h1,h2,hne,_=>by
  simp at h1 h2
  subst h1;subst h2
  rw [a3V,G3]
  unfold a6U T0
  rw [if_pos hne,if_pos hne]
  exact ⟨rfl,rfl⟩
 | u::l,v::m,k+1,x,y,h1,h2,hne,hi=>by
  have h0:=hi 0 u v (by omega) rfl rfl
  rw [a3V,G3]
  unfold a6U T0
  rw [if_neg (by omega),if_neg (by omega)]
  exact b0y (by simpa using h1) (by simpa using h2) hne fun j u v hj hu hv=>hi (j+1) u v (by omega) (by simpa using hu) (by simpa using hv)
theorem a3F:∀ {l m:List Tm},(∀ (j:Nat) u v,l[j]?=some u→m[j]?=some v→kb u v=0)→scs l m=emp∧kbs l m=0
 | [],_,_=>⟨rfl,rfl⟩
 | _::_,[],_=>⟨rfl,rfl⟩
 | u::l,v::m,hi=>by
  have h0:=hi 0 u v rfl rfl
  rw [a3V,G3]
  unfold a6U T0
  rw [if_neg (by omega),if_neg (by omega)]
  exact a3F fun j u v hu hv=>hi (j+1) u v (by simpa using hu) (by simpa using hv)
theorem emp_ss:Ss emp 0 fun _=>0:=⟨rfl,by simp [ndk,emp],rfl,rfl,fun _=>rfl⟩
theorem emp_bds:Bds emp 0:=⟨by simp [emp],by simp [emp],by simp [emp],fun _=>by simp [emp,C3,B5]⟩
def vD (a b:Tm) (v:Int):Int:=(a.vs.count v:Int)-b.vs.count v
theorem a7W:∀ (l m:List Tm),l.length=m.length→(∃ (k:Nat) (x y:Tm),l[k]?=some x∧m[k]?=some y∧kb x y≠0∧∀ (j:Nat) u v,j<k→l[j]?=some u→m[j]?=some v→kb u v=0)∨∀ (j:Nat) u v,l[j]?=some u→m[j]?=some v→kb u v=0
 | [],_,_ => .inr fun j u v h=>by simp at h
 | _::_,[],h=>by simp at h
 | u::l,v::m,h=>by
  by_cases h0:kb u v=0
  ·rcases a7W l m (by simpa using h) with ⟨k,x,y,h1,h2,h3,h4⟩ | h1
   ·left
    refine ⟨k+1,x,y,by simpa using h1,by simpa using h2,h3,fun j u' v' hj hu hv=>?_⟩
    cases j with
    | zero=>simp at hu hv;subst hu;subst hv;exact h0
    | succ j=>exact h4 j u' v' (by omega) (by simpa using hu) (by simpa using hv)
   ·right
    intro j u' v' hu hv
    cases j with
    | zero=>simp at hu hv;subst hu;subst hv;exact h0
    | succ j=>exact h1 j u' v' (by simpa using hu) (by simpa using hv)
  ·left;exact ⟨0,u,v,rfl,rfl,h0,fun j u v hj=>by omega⟩
theorem a0p:∀ {l m:List Tm} {k:Nat},k≤l.length→l.length=m.length→(∀ j u v,j<k→l[j]?=some u→m[j]?=some v→kb u v=0)→((l.take k).flatMap Tm.flat).length=((m.take k).flatMap Tm.flat).length∧(l.take k).flatMap Tm.vs=(m.take k).flatMap Tm.vs
 | _,_,0,_,_,_=>by simp
 | [],_,k+1,h,_,_=>by simp at h
 | _::_,[],k+1,_,h,_=>by simp at h
 | u::l,v::m,k+1,h,hl,hi=>by
  have h0:=(b1s u v).1 (hi 0 u v (by omega) rfl rfl)
  obtain ⟨h1,h2⟩:=a0p (l:=l) (m:=m) (k:=k) (by simpa using h) (by simpa using hl) fun j u v hj hu hv=>hi (j+1) u v (by omega) (by simpa using hu) (by simpa using hv)
  have h3:u.flat.length=v.flat.length:=by have:=congrArg Tm.size h0;rw [Tm.strip_size,Tm.strip_size] at this;exact this
  have h4:u.vs=v.vs:=by have:=congrArg Tm.vs h0;rw [Tm.strip_vs,Tm.strip_vs] at this;exact this
  rw [List.take_succ_cons,List.take_succ_cons,List.flatMap_cons,List.flatMap_cons,List.flatMap_cons,List.flatMap_cons,List.length_append,List.length_append,h1,h2,h3,h4]
  exact ⟨rfl,rfl⟩
theorem X7 {l:List Tm} {k:Nat} {x:Tm} (h:l[k]?=some x):(l.flatMap Tm.flat).length=((l.take k).flatMap Tm.flat).length+(x.size+((l.drop (k+1)).flatMap Tm.flat).length)∧∀ v,(l.flatMap Tm.vs).count v=((l.take k).flatMap Tm.vs).count v+(x.vs.count v+((l.drop (k+1)).flatMap Tm.vs).count v):=by
 obtain ⟨h1,_⟩:=b3W h
 constructor
 ·conv=>lhs;rw [h1]
  rw [List.flatMap_append,List.flatMap_cons,List.length_append,List.length_append]
  rfl
 ·intro v
  conv=>lhs;rw [h1]
  rw [List.flatMap_append,List.flatMap_cons,List.count_append,List.count_append]
theorem a8v (a:Tm):∀ b,Bds (scS a b) (a.size+b.size)∧(kb a b=0→scS a b=emp)∧(kb a b≠0→Ss (scS a b) (szD a b) (vD a b)):=by
 induction a using Tm.indp with
 | h a ih =>
  intro b
  by_cases h:a.f≠b.f∨a.ps.length≠b.ps.length
  ·rw [b0D h]
   have h1:Bds (addT (-1) (addT 1 emp a) b) (0+a.size+b.size):=(emp_bds.addT (.inl rfl)).addT (.inr rfl)
   refine ⟨by rw [Nat.zero_add] at h1;exact h1,fun h2=>?_,fun _=>?_⟩
   ·rw [M0,A3] at h2
    unfold wi at h2
    rw [if_pos h] at h2
    exact absurd h2 (b3w h)
   ·have h2:=(emp_ss.fold (σ:=1) (l:=a.flat)).fold (σ := -1) (l:=b.flat)
    refine ⟨?_,h2.nd,h2.sp,h2.lk,fun v=>?_⟩
    ·refine h2.sz.trans ?_
     unfold szD Tm.size;omega
    ·refine (h2.at_ v).trans ?_
     unfold vD Tm.vs;omega
  ·rw [b0p h]
   have hw:wi a b=kbs a.ps b.ps:=by unfold wi;rw [if_neg h]
   have hll:a.ps.length=b.ps.length:=by omega
   rcases a7W a.ps b.ps hll with ⟨k,x,y,h1,h2,h3,h4⟩ | h1
   ·obtain ⟨e1,e2⟩:=b0y h1 h2 h3 h4
    obtain ⟨b1,b2,b3⟩:=ih x (List.mem_of_getElem? h1) y
    have hk:k<a.ps.length:=by
     rcases Nat.lt_or_ge k a.ps.length with h | h
     ·exact h
     ·rw [List.getElem?_eq_none h] at h1;cases h1
    obtain ⟨v1,v2⟩:=a0p (Nat.le_of_lt hk) hll h4
    obtain ⟨l1,l2⟩:=X7 h1
    obtain ⟨m1,m2⟩:=X7 h2
    have sa:=a.size_eq
    have sb:=b.size_eq
    rw [e1]
    refine ⟨?_,fun h5=>?_,fun h5=>?_⟩
    ·have hB:=((b1.addL (.inl rfl) (l:=a.ps.drop (k+1))).addL (.inr rfl) (l:=b.ps.drop (k+1)))
     obtain ⟨q1,q2,q3,q4⟩:=hB
     exact ⟨by omega,by omega,by omega,fun v=>by have:=q4 v;omega⟩
    ·rw [M0,A3,hw,e2] at h5
     exact absurd h5 h3
    ·have h6:=((b3 h3).fold (σ:=1) (l:=(a.ps.drop (k+1)).flatMap Tm.flat)).fold (σ := -1) (l:=(b.ps.drop (k+1)).flatMap Tm.flat)
     refine ⟨?_,h6.nd,h6.sp,h6.lk,fun v=>?_⟩
     ·refine h6.sz.trans ?_
      unfold szD;omega
     ·refine (h6.at_ v).trans ?_
      rw [T3,T3]
      have p1:=l2 v
      have p2:=m2 v
      rw [←v2] at p2
      have hf:a.f=b.f:=by omega
      have ha:a.vs=a.ps.flatMap Tm.vs:=by
       by_cases hv:a.f<0
       ·rw [Tm.ps_of_var hv] at hk;simp at hk
       ·rw [Tm.vs_sym hv,Tm.ps_of_sym (by omega)]
      have hb:b.vs=b.ps.flatMap Tm.vs:=by
       by_cases hv:b.f<0
       ·rw [Tm.ps_of_var (t:=a) (by omega)] at hk;simp at hk
       ·rw [Tm.vs_sym hv,Tm.ps_of_sym (by omega)]
      unfold vD
      rw [ha,hb]
      omega
   ·obtain ⟨e1,e2⟩:=a3F h1
    rw [e1]
    refine ⟨?_,fun _=>rfl,fun h5=>?_⟩
    ·obtain ⟨q1,q2,q3,q4⟩:=emp_bds
     exact ⟨by omega,by omega,by omega,fun v=>by have:=q4 v;omega⟩
    ·exfalso
     apply h5
     rw [M0,A3,hw,e2]
theorem b4G (z w:Int):(if z≠0 then I7 z 0 else w)=b1u z w:=by
 unfold b1u
 rcases o6 z 0 with h | h | h
 ·rw [if_pos (by omega),if_neg (by omega),if_pos (by omega),h.1]
 ·rw [if_neg (by omega),if_neg (by omega),if_neg (by omega)]
 ·rw [if_pos (by omega),if_pos (by omega),h.1]
theorem b0J {s:Sc} {a b:Tm} (h:Ss s (szD a b) (vD a b)) {w:Int} (hw:w≠0):vdS s w=a0w (szD a b) (cov a b) (cov b a) w:=by
 have h1:0<s.lk↔¬ cov a b:=by
  obtain ⟨d1,d2⟩:=b5e h.nd
  rw [h.lk]
  have:dnS s.mp=0↔cov a b:=by
   rw [d2]
   unfold cov
   constructor
   ·intro h2 v;have:=h2 v;rw [h.at_] at this;unfold vD at this;omega
   ·intro h2 v;have:=h2 v;rw [h.at_];unfold vD;omega
  rw [←this];omega
 have h2:0<s.sp↔¬ cov b a:=by
  obtain ⟨d1,d2⟩:=b4P h.nd
  rw [h.sp]
  have:upS s.mp=0↔cov b a:=by
   rw [d2]
   unfold cov
   constructor
   ·intro h2 v;have:=h2 v;rw [h.at_] at this;unfold vD at this;omega
   ·intro h2 v;have:=h2 v;rw [h.at_];unfold vD;omega
  rw [←this];omega
 unfold vdS a0w b6h b3A
 rw [if_neg hw,h.sz,b4G]
 by_cases h3:(b1u (szD a b) w=1∧¬ cov a b)∨(b1u (szD a b) w = -1∧¬ cov b a)
 ·rw [if_pos h3,if_pos (by rw [h1,h2];exact h3)]
 ·rw [if_neg h3,if_neg (by rw [h1,h2];exact h3)]
set_option maxHeartbeats 1000000 in
theorem a5P:∀ a:Tm,a.rng→a.ok→a.size≤100000000000→∀ b:Tm,b.rng→b.ok→b.size≤100000000000→p9 Tryz.prog 115 (sst emp) [.bp 350001 0 [],.val a.cw,.val b.cw] (.val (.i (kb a b))) (sst (scS a b)):=by
 intro a
 induction a using Tm.indp with
 | h a ih =>
 intro hr hok has b hbr hbok hbs
 have hok':=(Tm.ok_iff _).1 hok
 have hr':=(Tm.rng_iff _).1 hr
 have hbok':=(Tm.ok_iff _).1 hbok
 have hbr':=(Tm.rng_iff _).1 hbr
 have hsz:=Tm.size_all a.ps
 have hsz2:=Tm.size_all b.ps
 have el:(a.ps.map Tm.cv).length=a.ps.length:=List.length_map ..
 have el2:(b.ps.map Tm.cv).length=b.ps.length:=List.length_map ..
 have hla:=a.len_ps
 have hlb:=b.len_ps
 obtain ⟨S,hS⟩:∃ S,S=scS a b:=⟨_,rfl⟩
 obtain ⟨sp1,sp2,sp3⟩:=a8v a b
 refine k9 Tryz.func115 Tryz.ntmps115 rfl rfl rfl rfl rfl rfl ?_
 intro w U hU
 refine aS (aR ?_)
 refine nc zd (nc zd (nc ze ?_))
 refine aS (aD (by kernel_rfl) (by kernel_rfl) ?_)
 refine nc zy (nc (zw (z:=a2X w a)) (nc zy (nc (zw (z:=a2X w b)) (nc ze (nc ze ?_)))))
 refine ⟨by kernel_rfl,?_⟩
 refine AWp.wk (a7 (s':=(0,AV.bp 350001 0 [])::(4,.bp 4 0 [])::(100004,.bx a.cw)::(5,.bp 5 0 [])::(100005,.bx b.cw)::(7,.val (.lst (a.ps.map Tm.cv)))::(8,.val (.lst (b.ps.map Tm.cv)))::sst emp) ⟨rfl,rfl,rfl,rfl,rfl,rfl,rfl,rfl,rfl,rfl,rfl,rfl,rfl,trivial⟩) ?_
 by_cases h:a.f≠b.f∨a.ps.length≠b.ps.length
 case pos =>
  have hw:wi a b=hdK a b:=by unfold wi;rw [if_pos h]
  have hk0:kb a b≠0:=by rw [M0,ne_eq,A3,hw];exact b3w h
  have hres:vdS (addT (-1) (addT 1 emp a) b) (hdK a b)=kb a b:=by
   have:=b0J (w:=hdK a b) (by have:=sp3 hk0;rw [b0D h] at this;exact this) (b3w h)
   rw [this,M0,hw]
  rw [b0D h]
  by_cases hf:a.f≠b.f
  ·have g:decide (a.f≠b.f)=true:=by simpa using hf
   refine aS (aS (aR ?_))
   refine nc zg (nc zh (nc zg (nc zh (nc z7 (nc zl (nc zO (nc zO (nc zO (nc zO (nc zO (nc zM ?_)))))))))))
   refine aC rfl (fun hc=>?_) (fun hc=>by cases hc)
   refine aS (aR ?_)
   refine nc zl (nc zy (nc (z0 (z:=U4 1 (.inl rfl) a hr hok emp 0 emp_bds (by omega)) (B:=y0 _) (C:=s6 _) (G:=i7 (by first | rfl | kernel_rfl))) ?_))
   refine aS (aR ?_)
   refine nc zl (nc zy (nc (z0 (z:=U4 (-1) (.inr rfl) b hbr hbok (addT 1 emp a) (0+a.size) (emp_bds.addT (.inl rfl)) (by omega)) (B:=y0 _) (C:=s6 _) (G:=i7 (by first | rfl | kernel_rfl))) ?_))
   refine aS (aR ?_)
   refine nc zl (nc zy (nc zy (nc (zw (z:=a3B w a b)) (nc (z0 (z:=P7 (addT (-1) (addT 1 emp a) b) (hdK a b)) (B:=y0 _) (C:=s6 _) (G:=i7 (by first | rfl | kernel_rfl))) (nc ze ?_)))))
   rw [hres]
   exact aT ⟨.inr rfl,_,Wk.refl _,rfl,rfl,rfl,rfl,rfl,rfl,rfl,trivial⟩
  ·have g:decide (a.f≠b.f)=false:=by simpa using hf
   refine aS (aS (aR ?_))
   refine nc zg (nc zh (nc zg (nc zh (nc z7 (nc zl (nc (zl (p:=gb)) (nc (zp (r:=gb)) (nc (zl (p:=gb)) (nc (zp (r:=gb)) (nc (z7 (r:=gb)) (nc zP ?_)))))))))))
   refine aC rfl (fun hc=>?_) (fun hc=>?_)
   case refine_2 =>
    exfalso
    have hc:=of_decide_eq_false hc
    simp only [List.length_map,ne_eq,Decidable.not_not] at hc
    omega
   refine aS (aR ?_)
   refine nc zl (nc zy (nc (z0 (z:=U4 1 (.inl rfl) a hr hok emp 0 emp_bds (by omega)) (B:=y0 _) (C:=s6 _) (G:=i7 (by first | rfl | kernel_rfl))) ?_))
   refine aS (aR ?_)
   refine nc zl (nc zy (nc (z0 (z:=U4 (-1) (.inr rfl) b hbr hbok (addT 1 emp a) (0+a.size) (emp_bds.addT (.inl rfl)) (by omega)) (B:=y0 _) (C:=s6 _) (G:=i7 (by first | rfl | kernel_rfl))) ?_))
   refine aS (aR ?_)
   refine nc zl (nc zy (nc zy (nc (zw (z:=a3B w a b)) (nc (z0 (z:=P7 (addT (-1) (addT 1 emp a) b) (hdK a b)) (B:=y0 _) (C:=s6 _) (G:=i7 (by first | rfl | kernel_rfl))) (nc ze ?_)))))
   rw [hres]
   exact aT ⟨.inr rfl,_,Wk.refl _,rfl,rfl,rfl,rfl,rfl,rfl,rfl,trivial⟩
 case neg =>
  have hf:a.f=b.f:=by omega
  have hll:a.ps.length=b.ps.length:=by omega
  have hw:wi a b=kbs a.ps b.ps:=by unfold wi;rw [if_neg h]
  have g:decide (a.f≠b.f)=false:=by simpa using hf
  refine aS (aS (aR ?_))
  refine nc zg (nc zh (nc zg (nc zh (nc z7 (nc zl (nc (zl (p:=gb)) (nc (zp (r:=gb)) (nc (zl (p:=gb)) (nc (zp (r:=gb)) (nc (z7 (r:=gb)) (nc zP ?_)))))))))))
  refine aC rfl (fun hc=>?_) (fun hc=>?_)
  ·exfalso
   have hc:=of_decide_eq_true hc
   simp only [List.length_map,ne_eq] at hc
   omega
  refine aK ?_
  refine aS (aS (aR ?_))
  refine nc zl (nc zp (nc zl ?_))
  refine aB (A9 a.ps.length (fun k=>∀ (j:Nat) u v,j<k→a.ps[j]?=some u→b.ps[j]?=some v→kb u v=0) (fun k=>(0,.bp 350001 0 [])::(7,.val (.lst (a.ps.map Tm.cv)))::(8,.val (.lst (b.ps.map Tm.cv)))::(39,.val (.i (a.ps.map Tm.cv).length))::(40,.val (.i k))::sst emp) (a7 ⟨rfl,rfl,rfl,rfl,rfl,rfl,rfl,rfl,rfl,rfl,rfl,trivial⟩) (fun j u v hj=>by omega) ?_)
  intro k hk hI
  refine aS (aR ?_)
  refine nc zi ?_
  refine aS (aC rfl (fun hlt=>?_) (fun hlt=>?_))
  ·have hkl:k<a.ps.length:=by simpa using hlt
   obtain ⟨x,hx⟩:∃ x,a.ps[k]?=some x:=⟨a.ps[k],List.getElem?_eq_getElem hkl⟩
   obtain ⟨y,hy⟩:∃ y,b.ps[k]?=some y:=⟨b.ps[k]'(by omega),List.getElem?_eq_getElem (by omega)⟩
   have hx':=Tm.map_at hx
   have hy':=Tm.map_at hy
   have hxm:=List.mem_of_getElem? hx
   have hym:=List.mem_of_getElem? hy
   have hxs:=Tm.size_part hxm
   have hys:=Tm.size_part hym
   have hrec:=ih x hxm (hr'.2 x (Tm.ps_mem hxm).1) (hok'.2 x (Tm.ps_mem hxm).1) (by omega) y (hbr'.2 y (Tm.ps_mem hym).1) (hbok'.2 y (Tm.ps_mem hym).1) (by omega)
   obtain ⟨q1,q2,q3⟩:=a8v x y
   refine aK ?_
   refine aS (aB (aS (aR ?_)))
   refine nc zl (nc ze ?_)
   refine aS (aD (by kernel_rfl) (by kernel_rfl) ?_)
   refine nc zl (nc zl (nc zl (nc (zq (j:=k) (H:=hx') (hz:=hsz)) (nc zr (nc zl (nc zl (nc (zq (j:=k) (H:=hy') (hz:=hsz2)) (nc zr (nc (z0 (z:=hrec) (B:=y0 _) (C:=s6 _) (G:=i7 (by first | rfl | kernel_rfl))) (nc ze ?_))))))))))
   refine ⟨by kernel_rfl,?_⟩
   refine aS (aR ?_)
   refine nc zl (nc z7 ?_)
   refine aC rfl (fun hc=>?_) (fun hc=>?_)
   ·have hne:kb x y≠0:=by simpa using hc
    obtain ⟨e1,e2⟩:=b0y hx hy hne hI
    have hk0:kb a b≠0:=by rw [M0,ne_eq,A3,hw,e2];exact hne
    obtain ⟨l1,l2⟩:=X7 hx
    obtain ⟨m1,m2⟩:=X7 hy
    have sa:=a.size_eq
    have sb:=b.size_eq
    have hA:∀ t∈a.ps.drop (k+1),t.rng∧t.ok:=fun t ht=>⟨hr'.2 t (Tm.ps_mem (List.mem_of_mem_drop ht)).1,hok'.2 t (Tm.ps_mem (List.mem_of_mem_drop ht)).1⟩
    have hB:∀ t∈b.ps.drop (k+1),t.rng∧t.ok:=fun t ht=>⟨hbr'.2 t (Tm.ps_mem (List.mem_of_mem_drop ht)).1,hbok'.2 t (Tm.ps_mem (List.mem_of_mem_drop ht)).1⟩
    have c1:=a1X 1 (.inl rfl) (a.ps.drop (k+1)) (by rw [List.length_drop];omega) hA (scS x y) (x.size+y.size) q1 (by omega)
    have b1:=q1.addL (σ:=1) (.inl rfl) (l:=a.ps.drop (k+1))
    have c2:=a1X (-1) (.inr rfl) (b.ps.drop (k+1)) (by rw [List.length_drop];omega) hB _ _ b1 (by omega)
    rw [List.map_drop] at c1 c2
    have hres:vdS (addL (-1) (addL 1 (scS x y) (a.ps.drop (k+1))) (b.ps.drop (k+1))) (kb x y)=kb a b:=by
     have:=b0J (w:=kb x y) (by have:=sp3 hk0;rw [b0p h,e1] at this;exact this) hne
     rw [this,M0 a b,hw,e2]
    refine aS (aR ?_)
    refine nc zl (nc zl (nc zl (nc zu (nc (zby (lo:=k+1)) (nc (z0 (z:=c1) (B:=y0 _) (C:=s6 _) (G:=i7 (by first | rfl | kernel_rfl))) ?_)))))
    refine aS (aR ?_)
    refine nc zl (nc zl (nc zl (nc zu (nc (zby (lo:=k+1)) (nc (z0 (z:=c2) (B:=y0 _) (C:=s6 _) (G:=i7 (by first | rfl | kernel_rfl))) ?_)))))
    refine aS (aR ?_)
    refine nc zl (nc zl (nc (z0 (z:=P7 _ (kb x y)) (B:=y0 _) (C:=s6 _) (G:=i7 (by first | rfl | kernel_rfl))) (nc ze ?_)))
    rw [hres,b0p h,e1]
    exact aT ⟨.inr rfl,_,Wk.refl _,rfl,rfl,rfl,rfl,rfl,rfl,rfl,trivial⟩
   ·have h0:kb x y=0:=by simpa using hc
    rw [q2 h0]
    refine aK ?_
    refine aR ?_
    refine nc zu (nc zl ?_)
    refine ⟨hkl,fun j u v hj hu hv=>?_,a7 ⟨rfl,rfl,rfl,rfl,rfl,rfl,rfl,rfl,rfl,rfl,rfl,trivial⟩⟩
    rcases Nat.lt_or_ge j k with h | h
    ·exact hI j u v h hu hv
    ·have:j=k:=by omega
     subst this
     rw [hx] at hu
     rw [hy] at hv
     cases hu;cases hv
     exact h0
  ·have hkl:k=a.ps.length:=by
    have:¬ k<a.ps.length:=by simpa using hlt
    omega
   subst hkl
   obtain ⟨e1,e2⟩:=a3F (l:=a.ps) (m:=b.ps) fun j u v hu hv=>hI j u v (by
    rcases Nat.lt_or_ge j a.ps.length with h | h
    ·exact h
    ·rw [List.getElem?_eq_none h] at hu;cases hu) hu hv
   have h0:kb a b=0:=by rw [M0,A3,hw,e2]
   rw [h0,sp2 h0]
   refine aE ?_
   refine aS (aR ?_)
   refine nc ze ?_
   exact aT ⟨.inr rfl,_,Wk.refl _,rfl,rfl,rfl,rfl,rfl,rfl,rfl,trivial⟩
theorem b8R:sst emp=c0a 0 0 0:=b3r rfl
theorem a7Y (W:World) (a b:Tm) (hr:a.rng) (hok:a.ok) (hs:a.size≤100000000000) (hbr:b.rng) (hbok:b.ok) (hbs:b.size≤100000000000):AFun Tryz.prog W 82 [a.cw,b.cw] (.val (.i (kb a b))):=by
 have hc:=a5P a hr hok hs b hbr hbok hbs
 rw [b8R] at hc
 refine f0 (rs:=[.i (kb a b)]) Tryz.func82 Tryz.ntmps82 rfl rfl rfl rfl ?_
 intro w U hW
 refine aS (aR ?_)
 refine nc zd (nc zd (nc ze ?_))
 refine aS (aR ?_)
 refine nc (zbz 350001 (hnf:=fun v h=>by first | (rw [hW.1] at h;cases h) | (have h2:=hU _ v h;cases h2))) ?_
 refine AWp.wk ((a7 (s':=[(2,AV.bp 2 0 []),(100002,.bx a.cw),(3,.bp 3 0 []),(100003,.bx b.cw),(5,.bp 350001 0 []),(450001,.obj),(35500100,.val (.i 0)),(35500101,.val (.sc (.map none))),(35500102,.val (.i 0)),(35500103,.val (.i 0))]) ⟨rfl,rfl,rfl,rfl,rfl,by kernel_rfl,by kernel_rfl,by kernel_rfl,by kernel_rfl,by kernel_rfl,trivial⟩).trans (b7K 35500101 300001 rfl rfl rfl (by kernel_rfl) (by kernel_rfl))) ?_
 refine aS (aR ?_)
 refine nc zy (nc zy (nc (z0 (z:=hc) (B:=by kernel_rfl) (C:=s6 _) (G:=i7 (by first | rfl | kernel_rfl))) (nc ze ?_)))
 exact aT ⟨.inr rfl,rfl⟩
theorem a5S (W:World) (a b:Tm) (hr:a.rng) (hok:a.ok) (hs:a.size≤100000000000) (hbr:b.rng) (hbok:b.ok) (hbs:b.size≤100000000000):AFun Tryz.prog W 151 [a.cw,b.cw] (.val (.b (decide (kb a b=1)))):=by
 refine f0 (rs:=[.b (decide (kb a b=1))]) Tryz.func151 Tryz.ntmps151 rfl rfl rfl rfl ?_
 intro w U hW
 refine aS (aR ?_)
 refine nc zd (nc zd (nc ze ?_))
 refine aS (aR ?_)
 refine nc zy (nc zy (nc (zw (z:=a7Y w a b hr hok hs hbr hbok hbs)) (nc zt (nc ze ?_))))
 exact aT ⟨.inr rfl,rfl⟩
noncomputable def c3L (a b:Tm):Bool:=haveI:=Classical.propDecidable;decide (cov a b)
def zTm:Tm:=⟨0,[]⟩
theorem b1H (a:List Tm) (k i:Nat) (hi:i<a.length) :
  (((a++List.replicate k zTm).map Tm.cv).take i++((((a++List.replicate k zTm).map Tm.cv).drop (i+1)).take (a.length-(i+1))++((a++List.replicate k zTm).map Tm.cv).drop (i+(a.length-(i+1))))).take (a.length-1)++(List.replicate (a.length-(a.length-1)) zTm.cv++(((a++List.replicate k zTm).map Tm.cv).take i++((((a++List.replicate k zTm).map Tm.cv).drop (i+1)).take (a.length-(i+1))++((a++List.replicate k zTm).map Tm.cv).drop (i+(a.length-(i+1))))).drop (a.length-1+(a.length-(a.length-1))))=(a.eraseIdx i++List.replicate (k+1) zTm).map Tm.cv:=by
 have e1:((a++List.replicate k zTm).map Tm.cv).take i=(a.take i).map Tm.cv:=by rw [←List.map_take,List.take_append_of_le_length (by omega)]
 have e2:(((a++List.replicate k zTm).map Tm.cv).drop (i+1)).take (a.length-(i+1))=(a.drop (i+1)).map Tm.cv:=by
  rw [←List.map_drop,←List.map_take,List.drop_append_of_le_length (by omega),List.take_append_of_le_length (by rw [List.length_drop];exact Nat.le_refl _),List.take_of_length_le (by rw [List.length_drop];exact Nat.le_refl _)]
 obtain ⟨E,hE⟩:∃ E,E=(a.eraseIdx i).map Tm.cv:=⟨_,rfl⟩
 have hEl:E.length=a.length-1:=by rw [hE,List.length_map,List.length_eraseIdx_of_lt hi]
 have e3:(a.take i).map Tm.cv++((a.drop (i+1)).map Tm.cv++((a++List.replicate k zTm).map Tm.cv).drop (i+(a.length-(i+1))))=E++((a++List.replicate k zTm).map Tm.cv).drop (a.length-1):=by
  rw [←List.append_assoc,←List.map_append,←List.eraseIdx_eq_take_drop_succ,←hE,show i+(a.length-(i+1))=a.length-1 by omega]
 rw [e1,e2,e3]
 have e4:a.length-(a.length-1)=1:=by omega
 have e5:a.length-1+1=a.length:=by omega
 have e7:(a.eraseIdx i++List.replicate (k+1) zTm).map Tm.cv=E++List.replicate (k+1) zTm.cv:=by rw [List.map_append,←hE,List.map_replicate]
 rw [e4,e5,←hEl,List.take_left,e7]
 have e6:(E++((a++List.replicate k zTm).map Tm.cv).drop E.length).drop a.length=List.replicate k zTm.cv:=by
  rw [List.drop_append,List.drop_eq_nil_of_le (by omega),List.nil_append,List.drop_drop,show E.length+(a.length-E.length)=a.length by omega,←List.map_drop,List.drop_left,List.map_replicate]
 rw [e6,List.replicate_succ]
 rfl
theorem a6G (a:List Tm) (k:Nat):((a++List.replicate k zTm).map Tm.cv).take a.length=a.map Tm.cv:=by rw [←List.map_take,List.take_left]
theorem a8s (W:World) (p:Tm→Bool) (fc:CV) (c:List Tm) (hl:c.length≤1000000) (hc:∀ W,∀ x∈c,N5 Tryz.prog W fc [x.cw] (.val (.b (p x)))):AFun Tryz.prog W 147 [.lst (c.map Tm.cv),fc] (.val (.i (match c.findIdx? p with | some i=>(i:Int) | none => -1))):=by
 have hsz:=Tm.size_all c
 obtain ⟨R,hR⟩:∃ R:Int,R=match c.findIdx? p with | some i=>(i:Int) | none => -1:=⟨_,rfl⟩
 rw [←hR]
 refine f0 (rs:=[.i R]) Tryz.func147 Tryz.ntmps147 rfl rfl rfl rfl ?_
 intro w U hW
 refine aS (aR ?_)
 refine nc ze ?_
 refine aS (aS (aR ?_))
 refine nc zl (nc zp (nc zl ?_))
 refine aB (A9 c.length (fun k=>∀ x∈c.take k,p x=false) (fun k=>[(0,.val (.lst (c.map Tm.cv))),(1,.val fc),(7,.val (.i (c.map Tm.cv).length)),(8,.val (.i k))]) (a7 ⟨rfl,rfl,rfl,rfl,trivial⟩) (by simp) ?_)
 intro k hk hI
 refine aS (aR ?_)
 refine nc zi ?_
 refine aS (aC rfl (fun hlt=>?_) (fun hlt=>?_))
 ·have hkl:k<c.length:=by simpa using hlt
  obtain ⟨x,hx⟩:∃ x,c[k]?=some x:=⟨c[k],List.getElem?_eq_getElem hkl⟩
  have hx':=Tm.map_at hx
  have hxm:=List.mem_of_getElem? hx
  refine aK ?_
  refine aS (aB (aS (aR ?_)))
  refine nc zl (nc ze ?_)
  refine aS (aR ?_)
  refine nc zl (nc zl (nc zl (nc (zq (j:=k) (H:=hx') (hz:=hsz)) (nc zr (nc (zK (E:=hc w x hxm)) ?_)))))
  refine aC rfl (fun hp=>?_) (fun hp=>?_)
  ·have hRk:R=k:=by
    rw [hR]
    have:c.findIdx? p=some k:=by
     rw [List.findIdx?_eq_some_iff_getElem]
     obtain ⟨hk2,e⟩:=List.getElem?_eq_some_iff.1 hx
     refine ⟨hk2,by rw [e];exact hp,fun j hj=>?_⟩
     have:=hI c[j] (List.mem_take_iff_getElem.2 ⟨j,by omega,rfl⟩)
     simpa using this
    rw [this]
   rw [hRk]
   refine aS (aR ?_)
   refine nc zl (nc ze ?_)
   exact aT (And.intro (.inr rfl) rfl)
  ·refine aK ?_
   refine aR ?_
   refine nc zu (nc zl ?_)
   refine ⟨hkl,?_,a7 ⟨rfl,rfl,rfl,rfl,trivial⟩⟩
   intro y hy
   rw [List.take_add_one,hx,List.mem_append] at hy
   rcases hy with hy | hy
   ·exact hI y hy
   ·simp at hy;rw [hy];exact hp
 ·have hkl:k=c.length:=by
   have:¬ k<c.length:=by simpa using hlt
   omega
  subst hkl
  rw [List.take_length] at hI
  have hRn:R = -1:=by
   rw [hR,List.findIdx?_eq_none_iff.2 fun x hx=>by rw [hI x hx]]
  rw [hRn]
  refine aE ?_
  refine aS (aR ?_)
  refine nc ze ?_
  exact aT (And.intro (.inr rfl) rfl)
theorem a8r (W:World) (p:Tm→Bool) (fc:CV) (c:List Tm) (hl:c.length≤1000000) (hc:∀ W,∀ x∈c,N5 Tryz.prog W fc [x.cw] (.val (.b (p x)))):AFun Tryz.prog W 126 [.lst (c.map Tm.cv),fc] (.val (.b (c.any p))):=by
 have e:decide ((match c.findIdx? p with | some i=>(i:Int) | none => -1)≥0)=c.any p:=by
  cases h:c.findIdx? p with
  | none =>
   have h1:=List.findIdx?_eq_none_iff.1 h
   have:c.any p=false:=by
    rw [List.any_eq_false]
    intro x hx
    rw [h1 x hx];simp
   rw [this];rfl
  | some i =>
   obtain ⟨hi,hp,_⟩:=List.findIdx?_eq_some_iff_getElem.1 h
   have:c.any p=true:=List.any_eq_true.2 ⟨_,List.getElem_mem hi,hp⟩
   rw [this]
   simp
 refine f0 (rs:=[.b (c.any p)]) Tryz.func126 Tryz.ntmps126 rfl rfl rfl rfl ?_
 intro w U hW
 refine aS (aR ?_)
 refine nc ze ?_
 refine aS (aR ?_)
 refine nc zl (nc zl (nc (zw (z:=a8s w p fc c hl hc)) (nc zbf (nc ze ?_))))
 rw [e]
 exact aT (And.intro (.inr rfl) rfl)
theorem a4x (a:List Tm) (k i:Nat) (hi:i<a.length) (hb:a.length+k≤1000000):p9 Tryz.prog 149 [(400001,.mrow 42 2 ((a++List.replicate k zTm).map Tm.cv))] [.sl 400001 0 a.length 2,.val (.i i),.val (.i ((i:Int)+1))] (.sl 400001 0 (a.length-1) 2) [(400001,.mrow 42 2 ((a.eraseIdx i++List.replicate (k+1) zTm).map Tm.cv))]:=by
 refine k9 Tryz.func149 Tryz.ntmps149 rfl rfl rfl rfl rfl rfl ?_
 intro w U hU
 obtain ⟨l,hl⟩:∃ l,l=(a++List.replicate k zTm).map Tm.cv:=⟨_,rfl⟩
 have hll:l.length=a.length+k:=by rw [hl];simp
 rw [←hl]
 refine aS (aR ?_)
 refine nc ze ?_
 refine aS (aR ?_)
 refine nc zl (nc zl (nc zl (nc zl (nc zV (nc (zbA (i) (i+1) (a.length)) ?_)))))
 refine aS (aS (aR ?_))
 refine nc zl (nc zl (nc zt ?_))
 refine aC rfl (fun h=>?_) (fun h=>?_)
 ·have h:decide ((i:Int)=(i:Int)+1)=true:=h
  have:=of_decide_eq_true h
  omega
 refine aK ?_
 refine AWp.wk (a7 (s':=[(0,.sl 400001 0 a.length 2),(1,.val (.i i)),(2,.val (.i ((i:Int)+1))),(400001,.mrow 42 2 l)]) ⟨rfl,rfl,rfl,rfl,trivial⟩) ?_
 refine aS (aR ?_)
 refine nc zl (nc zV (nc ze ?_))
 refine aS (aD (by kernel_rfl) (by kernel_rfl) ?_)
 refine nc zl (nc zl (nc (zZ (j:=i)) (nc zl (nc zl (nc (zW (j:=i+1)) (nc zbB (nc ze ?_)))))))
 refine ⟨by kernel_rfl,?_⟩
 obtain ⟨r1,hr1⟩:∃ r1,r1=l.take i++((l.drop (0+(i+1))).take (a.length-(i+1))++l.drop (i+(a.length-(i+1)))):=⟨_,rfl⟩
 have hr1l:r1.length=l.length:=by rw [hr1];simp only [List.length_append,List.length_take,List.length_drop];omega
 have e1:i+(a.length-(i+1))=a.length-1:=by omega
 refine AWp.wk (a7 (s':=[(0,.sl 400001 0 (a.length-1) 2),(7,.val (.i a.length)),(400001,.mrow 42 2 r1)]) ⟨by rw [←e1];rfl,rfl,by rw [hr1];rfl,trivial⟩) ?_
 refine aS (aR ?_)
 refine nc zl (nc zl (nc zV (nc zl (nc (zbC (a.length-1) (a.length)) (nc zY ?_)))))
 refine aS (aR ?_)
 refine nc zl (nc ze ?_)
 refine aT ⟨.inr rfl,_,Wk.refl _,rfl,?_,trivial⟩
 show some (AV.mrow _ _ _)=some (AV.mrow _ _ _)
 have e2:=b1H a k i hi
 rw [←hl] at e2
 rw [←e2,hr1,Nat.zero_add]
 rfl
theorem a4u (a:List Tm) (k i:Nat) (hi:i<a.length) (hb:a.length+k≤1000000):p9 Tryz.prog 149 [(400002,.mrow 42 2 ((a++List.replicate k zTm).map Tm.cv))] [.sl 400002 0 a.length 2,.val (.i i),.val (.i ((i:Int)+1))] (.sl 400002 0 (a.length-1) 2) [(400002,.mrow 42 2 ((a.eraseIdx i++List.replicate (k+1) zTm).map Tm.cv))]:=by
 refine k9 Tryz.func149 Tryz.ntmps149 rfl rfl rfl rfl rfl rfl ?_
 intro w U hU
 obtain ⟨l,hl⟩:∃ l,l=(a++List.replicate k zTm).map Tm.cv:=⟨_,rfl⟩
 have hll:l.length=a.length+k:=by rw [hl];simp
 rw [←hl]
 refine aS (aR ?_)
 refine nc ze ?_
 refine aS (aR ?_)
 refine nc zl (nc zl (nc zl (nc zl (nc zV (nc (zbA (i) (i+1) (a.length)) ?_)))))
 refine aS (aS (aR ?_))
 refine nc zl (nc zl (nc zt ?_))
 refine aC rfl (fun h=>?_) (fun h=>?_)
 ·have h:decide ((i:Int)=(i:Int)+1)=true:=h
  have:=of_decide_eq_true h
  omega
 refine aK ?_
 refine AWp.wk (a7 (s':=[(0,.sl 400002 0 a.length 2),(1,.val (.i i)),(2,.val (.i ((i:Int)+1))),(400002,.mrow 42 2 l)]) ⟨rfl,rfl,rfl,rfl,trivial⟩) ?_
 refine aS (aR ?_)
 refine nc zl (nc zV (nc ze ?_))
 refine aS (aD (by kernel_rfl) (by kernel_rfl) ?_)
 refine nc zl (nc zl (nc (zZ (j:=i)) (nc zl (nc zl (nc (zW (j:=i+1)) (nc zbB (nc ze ?_)))))))
 refine ⟨by kernel_rfl,?_⟩
 obtain ⟨r1,hr1⟩:∃ r1,r1=l.take i++((l.drop (0+(i+1))).take (a.length-(i+1))++l.drop (i+(a.length-(i+1)))):=⟨_,rfl⟩
 have hr1l:r1.length=l.length:=by rw [hr1];simp only [List.length_append,List.length_take,List.length_drop];omega
 have e1:i+(a.length-(i+1))=a.length-1:=by omega
 refine AWp.wk (a7 (s':=[(0,.sl 400002 0 (a.length-1) 2),(7,.val (.i a.length)),(400002,.mrow 42 2 r1)]) ⟨by rw [←e1];rfl,rfl,by rw [hr1];rfl,trivial⟩) ?_
 refine aS (aR ?_)
 refine nc zl (nc zl (nc zV (nc zl (nc (zbC (a.length-1) (a.length)) (nc zY ?_)))))
 refine aS (aR ?_)
 refine nc zl (nc ze ?_)
 refine aT ⟨.inr rfl,_,Wk.refl _,rfl,?_,trivial⟩
 show some (AV.mrow _ _ _)=some (AV.mrow _ _ _)
 have e2:=b1H a k i hi
 rw [←hl] at e2
 rw [←e2,hr1,Nat.zero_add]
 rfl
theorem b2z (W:World) (t u:Tm) (ht:t.rng) (hu:u.rng):AFun Tryz.prog W 148 [u.cw,.ptr t.cw] (.val (.b (v8 t u))):=by
 refine f0 (rs:=[.b (v8 t u)]) Tryz.func148 Tryz.ntmps148 rfl rfl rfl rfl ?_
 intro w U hW
 refine aS (aR ?_)
 refine nc zd (nc ze ?_)
 refine aS (aR ?_)
 refine nc zbD (nc zy (nc (zw (z:=b4F w ht hu)) (nc ze ?_)))
 exact aT (And.intro (.inr rfl) rfl)
noncomputable def rwT (n:Nat) (a:List Tm) (k:Nat):Nat×AV:=(n,.mrow 42 2 ((a++List.replicate k zTm).map Tm.cv))
theorem a2A:∀ (n:Nat) (a b:List Tm),(C4 n a b).1.length≤a.length∧(C4 n a b).2.length≤b.length
 | 0,a,b=>⟨Nat.le_refl _,Nat.le_refl _⟩
 | n+1,a,b=>by
  unfold C4
  split
  ·exact a2A n a b
  ·split
   ·exact a2A n a b
   ·rename_i k hk
    have h:=a2A n (a.eraseIdx n) (b.eraseIdx k)
    exact ⟨Nat.le_trans h.1 (List.length_eraseIdx_le _ _),Nat.le_trans h.2 (List.length_eraseIdx_le _ _)⟩
theorem a3m:∀ (n:Nat) (a b:List Tm),(∀ t∈(C4 n a b).1,t∈a)∧∀ t∈(C4 n a b).2,t∈b
 | 0,a,b=>⟨fun _ h=>h,fun _ h=>h⟩
 | n+1,a,b=>by
  unfold C4
  split
  ·exact a3m n a b
  ·split
   ·exact a3m n a b
   ·rename_i k hk
    have h:=a3m n (a.eraseIdx n) (b.eraseIdx k)
    exact ⟨fun t ht=>List.mem_of_mem_eraseIdx (h.1 t ht),fun t ht=>List.mem_of_mem_eraseIdx (h.2 t ht)⟩
theorem b4s (a b:List Tm) (ha:∀ t∈a,t.rng) (hb:∀ t∈b,t.rng) (hal:a.length≤100000) (hbl:b.length≤100000) :
  b3q Tryz.prog 123 [rwT 400001 a 0,rwT 400002 b 0] 400001 400002 (fun v1 v2=>[.val (.sc (a4B v1 a.length)),.val (.sc (a4B v2 b.length))]) (fun v1 v2 => .tup [.sc (a4B v1 (C4 a.length a b).1.length),.sc (a4B v2 (C4 a.length a b).2.length)]) [rwT 400001 (C4 a.length a b).1 (a.length-(C4 a.length a b).1.length),rwT 400002 (C4 a.length a b).2 (b.length-(C4 a.length a b).2.length)]:=by
 refine b5p 2 400001 3 400002 Tryz.func123 Tryz.ntmps123 rfl rfl (fun _ _=>rfl) rfl rfl rfl rfl rfl ?_
 intro v1 v2 w U hU
 obtain ⟨X,Y,hXY⟩:∃ X Y,C4 a.length a b=(X,Y):=⟨_,_,rfl⟩
 rw [hXY]
 have hla:((a++List.replicate 0 zTm).map Tm.cv).length=a.length:=by simp
 have hlb:((b++List.replicate 0 zTm).map Tm.cv).length=b.length:=by simp
 refine AWp.wk ((b0P 0 400001 2 a.length (e:=42) (z:=2) (l:=(a++List.replicate 0 zTm).map Tm.cv) rfl rfl rfl rfl (by omega)).trans ((b0P 1 400002 3 b.length (e:=42) (z:=2) (l:=(b++List.replicate 0 zTm).map Tm.cv) rfl rfl rfl rfl (by omega)).trans (a7 (s':=[(2,.hdl v1 400001),(3,.hdl v2 400002),(0,.sl 400001 0 a.length 2),(1,.sl 400002 0 b.length 2),rwT 400001 a 0,rwT 400002 b 0]) ⟨rfl,rfl,rfl,rfl,rfl,rfl,trivial⟩))) ?_
 refine aS (aR ?_)
 refine nc ze (nc ze ?_)
 refine aS (aS (aR ?_))
 refine nc zl (nc zV (nc zj (nc ze ?_)))
 let st:Nat→List Tm→List Tm→Nat→Nat→AS:=fun m A B ka kb=>[(2,.hdl v1 400001),(3,.hdl v2 400002),(0,.sl 400001 0 A.length 2),(1,.sl 400002 0 B.length 2),(6,.val (.i ((m:Int)-1))),rwT 400001 A ka,rwT 400002 B kb]
 refine aB (l6 (fun j s=>∃ A B ka kb,C4 j A B=(X,Y)∧j≤A.length∧A.length+ka=a.length∧B.length+kb=b.length∧(∀ t∈A,t.rng)∧(∀ t∈B,t.rng)∧s=st j A B ka kb) (s':=st a.length a b 0 0) (a7 ⟨rfl,rfl,rfl,rfl,rfl,rfl,rfl,trivial⟩) ⟨a,b,0,0,hXY,Nat.le_refl _,rfl,rfl,ha,hb,rfl⟩ ?_)
 rintro m s ⟨A,B,ka,kb,hc,hm,hka,hkb,hA,hB,rfl⟩
 refine aS (aS (aR ?_))
 refine nc zl (nc zbf ?_)
 refine aC rfl (fun hlt=>?_) (fun hlt=>?_)
 ·have hm0:0<m:=by have h3:decide ((m:Int)-1≥0)=true:=hlt;have:=of_decide_eq_true h3;omega
  obtain ⟨m,rfl⟩:∃ q,m=q+1:=⟨m-1,by omega⟩
  have hmA:m<A.length:=by omega
  obtain ⟨t,ht⟩:∃ t,A[m]?=some t:=⟨A[m],List.getElem?_eq_getElem hmA⟩
  have htr:t.rng:=hA t (List.mem_of_getElem? ht)
  have ht':((A++List.replicate ka zTm).map Tm.cv)[m]?=some t.cw:=Tm.map_at (by rw [List.getElem?_append_left hmA];exact ht)
  have hlA:((A++List.replicate ka zTm).map Tm.cv).length=A.length+ka:=by simp
  have hlB:((B++List.replicate kb zTm).map Tm.cv).length=B.length+kb:=by simp
  obtain ⟨lA,hlA2⟩:∃ lA,lA=(A++List.replicate ka zTm).map Tm.cv:=⟨_,rfl⟩
  refine aK ?_
  refine AWp.wk (a7 (s':=[(2,.hdl v1 400001),(3,.hdl v2 400002),(0,.sl 400001 0 A.length 2),(1,.sl 400002 0 B.length 2),(6,.val (.i (((m+1:Nat):Int)-1))),(400001,.mrow 42 2 lA),rwT 400002 B kb]) ⟨rfl,rfl,rfl,rfl,rfl,by rw [hlA2];rfl,rfl,trivial⟩) ?_
  rw [←hlA2] at ht' hlA
  refine aS (aB (aS (aR ?_)))
  refine nc zl (nc zl (nc (zI (k:=m)) (nc (zJ (G:=ht')) (nc zk (nc zo ?_)))))
  refine AWp.wk (A5 7 rfl rfl rfl (s':=[(2,.hdl v1 400001),(3,.hdl v2 400002),(0,.sl 400001 0 A.length 2),(1,.sl 400002 0 B.length 2),(6,.val (.i (((m+1:Nat):Int)-1))),(400001,.mrow 42 2 lA),rwT 400002 B kb]) ⟨rfl,rfl,rfl,rfl,rfl,rfl,rfl,trivial⟩ rfl rfl rfl) ?_
  have hI:=a8s w (v8 t) (.fn 148 0 [.ptr t.cw]) B (by omega) (fun w x hx => .inl ⟨_,_,_,rfl,b2z w t x htr (hB x hx)⟩)
  rw [←a6G B kb] at hI
  have hI2:=a9O (e:=42) (z:=2) (nm:=400002) (N:=B.length) (by omega) (by omega) (by omega) hI
  refine aS (aR ?_)
  refine nc zl (nc zB (nc (z0 (z:=hI2) (G:=i7 (by first | rfl | kernel_rfl))) (nc ze ?_)))
  obtain ⟨J,hJ⟩:∃ J:Int,J=(match B.findIdx? (v8 t) with | some i=>(i:Int) | none => -1):=⟨_,rfl⟩
  refine AWp.wk (a7 (s':=[(2,.hdl v1 400001),(3,.hdl v2 400002),(0,.sl 400001 0 A.length 2),(1,.sl 400002 0 B.length 2),(6,.val (.i (((m+1:Nat):Int)-1))),(8,.val (.i J)),(400001,.mrow 42 2 lA),rwT 400002 B kb]) ⟨rfl,rfl,rfl,rfl,rfl,by rw [hJ];rfl,rfl,rfl,trivial⟩) ?_
  refine aS (aR ?_)
  refine nc zl (nc zbf ?_)
  unfold C4 at hc
  rw [ht] at hc
  simp only at hc
  refine aC rfl (fun hf=>?_) (fun hf=>?_)
  ·have hf:decide (J≥0)=true:=hf
   cases hfi:B.findIdx? (v8 t) with
   | none=>rw [hfi] at hJ;rw [hJ] at hf;simp at hf
   | some k =>
    rw [hfi] at hJ hc
    have hc:C4 m (A.eraseIdx m) (B.eraseIdx k)=(X,Y):=hc
    obtain ⟨hkl,_,_⟩:=List.findIdx?_eq_some_iff_getElem.1 hfi
    refine AWp.wk (a7 (s':=[(2,.hdl v1 400001),(3,.hdl v2 400002),(0,.sl 400001 0 A.length 2),(1,.sl 400002 0 B.length 2),(6,.val (.i (m:Int))),(8,.val (.i (k:Int))),rwT 400001 A ka,rwT 400002 B kb]) ⟨rfl,rfl,rfl,rfl,?_,by rw [hJ];rfl,by rw [hlA2];rfl,rfl,trivial⟩) ?_
    ·show some (AV.val (.i (((m+1:Nat):Int)-1)))=some (AV.val (.i (m:Int)))
     rw [show ((m+1:Nat):Int)-1=(m:Int) by omega]
    refine aR ?_
    refine nc zl (nc zl (nc zl (nc zu (nc (z0 (z:=a4x A ka m hmA (by omega)) (G:=i7 (by first | rfl | kernel_rfl))) (nc zl (nc zl (nc zl (nc zu (nc (z0 (z:=a4u B kb k hkl (by omega)) (G:=i7 (by first | rfl | kernel_rfl))) (nc ze (nc ze ?_)))))))))))
    have hAe:(A.eraseIdx m).length=A.length-1:=List.length_eraseIdx_of_lt hmA
    have hBe:(B.eraseIdx k).length=B.length-1:=List.length_eraseIdx_of_lt hkl
    refine AWp.wk (a7 (s':=[(2,.hdl v1 400001),(3,.hdl v2 400002),(0,.sl 400001 0 (A.eraseIdx m).length 2),(1,.sl 400002 0 (B.eraseIdx k).length 2),(6,.val (.i (m:Int))),rwT 400001 (A.eraseIdx m) (ka+1),rwT 400002 (B.eraseIdx k) (kb+1)]) ⟨rfl,rfl,by rw [hAe];rfl,by rw [hBe];rfl,rfl,rfl,rfl,trivial⟩) ?_
    refine aR ?_
    refine nc zl (nc zj (nc ze ?_))
    refine ⟨m,st m (A.eraseIdx m) (B.eraseIdx k) (ka+1) (kb+1),by omega,⟨_,_,_,_,hc,by omega,by omega,by omega,fun t h=>hA t (List.mem_of_mem_eraseIdx h),fun t h=>hB t (List.mem_of_mem_eraseIdx h),rfl⟩,a7 ⟨rfl,rfl,rfl,rfl,rfl,rfl,rfl,trivial⟩⟩
  ·have hf:decide (J≥0)=false:=hf
   cases hfi:B.findIdx? (v8 t) with
   | some k=>rw [hfi] at hJ;rw [hJ] at hf;simp at hf
   | none =>
    rw [hfi] at hc
    have hc:C4 m A B=(X,Y):=hc
    refine aK ?_
    refine AWp.wk (a7 (s':=[(2,.hdl v1 400001),(3,.hdl v2 400002),(0,.sl 400001 0 A.length 2),(1,.sl 400002 0 B.length 2),(6,.val (.i (m:Int))),rwT 400001 A ka,rwT 400002 B kb]) ⟨rfl,rfl,rfl,rfl,?_,by rw [hlA2];rfl,rfl,trivial⟩) ?_
    ·show some (AV.val (.i (((m+1:Nat):Int)-1)))=some (AV.val (.i (m:Int)))
     rw [show ((m+1:Nat):Int)-1=(m:Int) by omega]
    refine aR ?_
    refine nc zl (nc zj (nc ze ?_))
    refine ⟨m,st m A B ka kb,by omega,⟨_,_,_,_,hc,by omega,hka,hkb,hA,hB,rfl⟩,a7 ⟨rfl,rfl,rfl,rfl,rfl,rfl,rfl,trivial⟩⟩
 ·have hm0:m=0:=by have h3:decide ((m:Int)-1≥0)=false:=hlt;have:=of_decide_eq_false h3;omega
  subst hm0
  unfold C4 at hc
  cases hc
  have hkA:ka=a.length-X.length:=by omega
  have hkB:kb=b.length-Y.length:=by omega
  subst hkA hkB
  refine aE ?_
  refine aS (aR ?_)
  refine nc zl (nc zl (nc ze (nc ze ?_)))
  refine aT ⟨.inr rfl,_,(a3f 4 400001 2 rfl rfl rfl).trans (a3f 5 400002 3 rfl rfl rfl),rfl,rfl,rfl,trivial⟩
end Go.Proofs.YtglmoficcjphaaaGreat
namespace Go.Proofs.YtglmoficcjphaaaGreat
open Go.RowKit
set_option linter.unusedVariables false
structure Lt where
 neg:Bool
 a:Tm
 b:Tm
noncomputable abbrev Lt.cw (l:Lt):CV := .row [.b l.neg,l.a.cw,l.b.cw]
noncomputable def Lt.cv (l:Lt):CV:=l.cw
theorem Lt.size_all (c:List Lt):∀ x∈c.map Lt.cv,x.size=5:=by
 intro x hx
 obtain ⟨l,_,rfl⟩:=List.mem_map.1 hx
 rfl
theorem Lt.map_at {c:List Lt} {i:Nat} {l:Lt} (h:c[i]?=some l):(c.map Lt.cv)[i]?=some l.cw:=by rw [List.getElem?_map,h];rfl
def Lt.strip (l:Lt):Lt:=⟨l.neg,l.a.strip,l.b.strip⟩
def Lt.rng (l:Lt):Prop:=l.a.rng∧l.b.rng
def Lt.ok (l:Lt):Prop:=l.a.ok∧l.b.ok
end Go.Proofs.YtglmoficcjphaaaGreat
