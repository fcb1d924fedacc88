/-
 AbNest4 AbDel AbRowO AbHdl AbYield AbYield2 AbYield3 SbFns SbApply SbVars SbSmall TmOrd RfSame RfLess RfFlat RfVars AbOf SbVnt SbRen SbSort SbClone
-/
import Derived.Test.YteegmcfobgpemaaGreatMg3
import Derived.Test.YteegmcfobgpemaaGreatMg2
namespace Go.Proofs.YteegmcfobgpemaaGreat
open List (all_cons all_eq_true flatMap_def getElem?_eq_getElem getElem?_eq_none length_append length_cons length_map length_nil length_set length_take map_append map_congr_left map_cons map_map mem_append_left mem_append_right mem_map mem_of_getElem? mem_of_mem_drop mem_of_mem_take sum_cons take_append_drop)
open Go.RowKit
set_option linter.unusedVariables false
set_option linter.unusedSimpArgs false
set_option maxRecDepth 100000
section
open Go.RowKit Go.MapKept
section
variable {P:Program} {nt:Nat}
theorem a6x {f:FuncId} {fn:Func} {c:Code} {pre post:AS} {args:List AV} {r:AV} (hf:P.funcs[f]?=some fn) (hn:fn.ntmps=nt) (hb:fn.body=some c) (hl:Nat.ble args.length nt=true) (cE:Nat.blt nt 100000=true) (gC:(kO pre).all (Nat.ble 100000)=true) (kQ:(kO post).all (Nat.ble 100000)=true) {w:World} {U:UX}
  (h:a1G P w U nt c (fun e s' g=>(e = .normal\/e = .ret)/\∃ s2,Wk w U nt s' ((299999,.ob g 0)::s2)/\b5b P s2 fn.results.toList=some r/\SubL s2 post/\look s2 299999=none) (C3 args 0++pre)) {hv:Nat->Value} {a0:Act} {vs:List Value} (gE:SimG w U 0 pre a0 w (fun _ _=>False) hv) (hargs:AVReps (Us w U (fun _ _=>False)) w hv (a9 pre) args vs) :
  Calls P f vs.toArray w fun e w'=>∃ v D' kG a',e = .returned v/\SimG w U 0 post a' w' D' kG/\AVRep (Us w U D') w' kG (a9 post) r v:=by
 have kD:=hargs.len;refine callsIn_wide.1 (callsIn_of_wp_marks (F:=Fence.wide) (n:=1) hf hb trivial ?_ rfl);have cY:=Nat.le_of_ble_eq_true hl;have cE:=bL cE;have kV:∀ {k av},look pre k=some av->100000<=k:=fun {k av} h1=>by rw [all_eq_true] at gC;exact Nat.le_of_ble_eq_true (gC k (i8 h1))
 have kB:∀ {k},100000<=k->look (C3 args 0++pre) k=look pre k:=fun {k} h1=>by
  rw [b9];cases h2:look (C3 args 0) k with
  | none=>rfl
  | some av =>
   obtain ⟨_,h3⟩:=w8 h2;rw [Nat.sub_zero,getElem?_eq_none (by omega)] at h3;cases h3
 have kI:a9 (C3 args 0++pre)=a9 pre:=by
  funext n;unfold a9 t7;apply propext;constructor
  ·rintro (h1 | ⟨e,h1,h2,h3⟩)
   ·exact .inl h1
   ·rw [kB (by omega)] at h1;exact .inr ⟨e,h1,h2,h3⟩
  ·rintro (h1 | ⟨e,h1,h2,h3⟩)
   ·exact .inl h1
   ·exact .inr ⟨e,by rw [kB (by omega)];exact h1,h2,h3⟩
 have hs:Sim w U nt (C3 args 0++pre) { tmps:=vs.toArray++Array.replicate (fn.ntmps-vs.toArray.size) undef,defers:=[] } w:=by
  refine ⟨fun _ _=>False,hv,gE.below,rfl,by simp [hn];omega,fun d av h1 h2=>?_,fun n o av h1 h2 h3 h4=>?_,fun n o o' av av' h1 h2=>?_,fun k av h1 h2=>?_,fun k av g h1 h2=>?_,fun k k' av av' g h1 h2 h3 h4=>?_,gE.fix,fun b o hd=>hd.elim⟩
  ·rw [b9] at h1;cases h3:look (C3 args 0) d with
   | none =>
    rw [h3] at h1;have:=kV h1;omega
   | some av' =>
    rw [h3] at h1;cases h1;obtain ⟨_,h4⟩:=w8 h3;rw [Nat.sub_zero] at h4;obtain ⟨v,h6,h7⟩:=hargs.at h4;have hdl:d<vs.length:=by
     rcases Nat.lt_or_ge d vs.length with h | h
     ·exact h
     ·rw [getElem?_eq_none h] at h6;cases h6
    rw [kI];refine ⟨v,?_,h7⟩;rw [Array.getElem?_append_left (by simpa using hdl)];simpa using h6
  ·rw [kB (by unfold f0;omega)] at h1;rw [kB (by omega)] at h3;rw [kI];exact gE.fld n o av h1 h2 h3 h4
  ·rw [kB (by unfold f0;omega)] at h1 h2;exact gE.fdis n o o' av av' h1 h2
  ·rw [kB h2.1] at h1;rw [kI];exact gE.obj k av h1 h2
  ·rw [kB h2.1] at h1;exact gE.blk k av g h1 h2
  ·rw [kB h3.1] at h1;rw [kB h4.1] at h2;exact gE.disj k k' av av' g h1 h2 h3 h4
 refine wpIn_mono (h _ w hs) ?_;rintro e a' w' ⟨s',a'',g,⟨h1,s2,g1,g2,g3,g4⟩,h3,rfl,g5⟩;obtain ⟨D',kG,h4⟩:=g1 a'' w' h3;obtain ⟨h5,h6,h7,y,h8,h9⟩:=h4.putob (n:=299999) (o:=0) (o':=1) (by unfold RW;omega) (lS _ _ _) (x := .deferred none) (fun _ _ _ e=>by cases e) (fun e=>by cases e);have h9:=h9 rfl;subst h9;have hS:=h5.sub (s':=s2) fun k av hk=>by
  have kE:(299999:Nat)≠k:=fun e=>by rw [<-e,g4] at hk;cases hk
  rw [lN kE,lN kE];exact hk
 obtain ⟨v,i1,i2⟩:=R2 hS g2;have gT:∀ {k av},look post k=some av->100000<=k:=fun {k av} h1=>by rw [all_eq_true] at kQ;exact Nat.le_of_ble_eq_true (kQ k (i8 h1))
 have iP:=hS.sub g3.sub;have jP:SimG w U 0 post ⟨#[],[]⟩ (w'.putObj g (.deferred none)) D' kG:=⟨iP.below,rfl,rfl,fun d av h7 h8=>by have:=gT h7;omega,iP.fld,iP.fdis,iP.obj,iP.blk,iP.disj,iP.fix,iP.dlt⟩
 have cL:LeavesInM Fence.wide 1 P fn a''.tmps (fun e w'=>∃ v D' kG a',e = .returned v/\SimG w U 0 post a' w' D' kG/\AVRep (Us w U D') w' kG (a9 post) r v) [⟨.collected g,#[]⟩] .returning w':=
  ⟨(fun e=>by cases e),.inl ⟨g,_,rfl,run_takeDeferred h8,v,i1,v,D',kG,_,rfl,jP,i2.move (fun _ _ _ h1 h2=>⟨h1,h2⟩) (fun _ h7=>h7.imp id fun ⟨e,he⟩=>⟨e,g3.sub _ _ he.1,he.2⟩) fun _=>rfl⟩⟩
 rcases h1 with rfl | rfl
 ·exact cL
 ·exact cL
theorem b5r {W : World} {f : FuncId} {fn : Func} {c : Code} {args : List CV} {r : CV} (hf : P.funcs[f]? = some fn) (hn : fn.ntmps = nt) (gL : (fn.name == "runtime.NumGoroutine") = false) (hb : fn.body = some c) (hl : Nat.ble (args.map AV.val).length nt = true) (cE : Nat.blt nt 100000 = true)
  (h:∀ (w:World) (U:UX),Hw w w U->a1G P w U nt c (fun e s' g=>(e = .normal\/e = .ret)/\∃ s2,Wk w U nt s' ((299999,.ob g 0)::s2)/\b5b P s2 fn.results.toList=some (.val r)/\SubL s2 []/\look s2 299999=none) (C3 (args.map AV.val) 0++[])):AFun P W f args (.val r):=by
 refine ⟨x9 hf gL (by rw [hb];rfl),.inl rfl,rfl,fun U w vs _ hv=>?_⟩;obtain ⟨V,hV⟩:∃ V:UX,V=⟨U,fun _=>False,fun _=>none,fun k v e=>by cases e⟩:=⟨_,rfl⟩
 have fV:∀ b o v,U b o->w.cell? ⟨b,o,none⟩=some v->Us w V (fun _ _=>False) b o/\w.cell? ⟨b,o,none⟩=some v:=fun b o v h1 h2=>⟨.inl ⟨World.block_lt_of_cell? w _ h2,by rw [hV];exact h1,by rw [hV];exact fun h=>h⟩,h2⟩
 have hS:SimG w V 0 [] ⟨#[],[]⟩ w (fun _ _=>False) (fun _ => .slice none 0 0):=⟨BelowX.refl _ _,rfl,rfl,(fun d av h=>by cases h),(fun n o av h=>by cases h),(fun n o o' av av' h=>by cases h),(fun k av h=>by cases h),(fun k av g h=>by cases h),(fun k k' av av' g h=>by cases h),(fun k v h=>by rw [hV] at h;cases h),fun b o h=>h.elim⟩
 have hargs:∀ (cs:List CV) (vs:List Value),VReps U w cs vs->AVReps (Us w V (fun _ _=>False)) w (fun _ => .slice none 0 0) (a9 []) (cs.map AV.val) vs:=by
  intro cs
  induction cs with
  | nil=>intro vs h;exact h
  | cons a cs ih =>
   rintro vs ⟨u,us,rfl,h1,h2⟩;exact ⟨u,us,rfl,n4 (h1.keep fV),ih us h2⟩
 refine (a6x (post:=[]) hf hn hb hl cE rfl rfl (h w V ⟨fun _=>by rw [hV],fun b hb=>by rw [hV] at hb;exact hb⟩) hS (hargs args vs hv)).mono ?_;rintro e w' ⟨v,D',kG,a',rfl,h1,h2⟩;refine ⟨v,rfl,?_,h1.below.below fun k hk=>by rw [hV] at hk;exact hk⟩;have h3:VRep (Us w V D') w' r v:=by have:VRep (Us w V D') w' r v/\Tk kG (a9 []) (.val r) v.cells.toList:=h2;exact this.1
 show VRep _ w' r v;refine h3.keep fun b o u hu hc=>⟨?_,hc⟩
 rcases hu with hu | hu
 ·left;have:=hu.2.1;rw [hV] at this;exact this
 ·exact .inr hu.1
end
end
section
variable {P:Program} {w0:World} {U0:UX} {nt:Nat} {ops:Array Oper} {o:Oper} {S:Nat->Option AV} {gs:List Nat} {d:Nat} {s:AS} {a:Act} {w:World} {D:Nat->Nat->Prop} {hv:Nat->Value}
theorem c0G (i1 i2 i3:Nat) (hg:Gd w0 U0 nt ops o gs S) (hd:o.dst=some d) (hn:Nat.blt d nt=true) (h5:Nat.blt d 100000=true) {x y y2 y3:Operand} {t e:TypeId} {z:Nat} {k k2 k3:IntKind} {j1 j2 j3:Int} {n lo len n1 q1 p1 n2 q2 p2 n3 q3 p3} (ho:o.op = .slice t x (some y) (some y2) (some y3)) (hu:P.underlying t=some (.slice e)) (hi:(P.info? e).map (·.size)=some z) (hx:ev S x=some (.sl n lo len z)) (hy:ev S y=some ⟨0,.sc (.int k j1),n1,q1,p1⟩) (iE:ev S y2=some ⟨0,.sc (.int k2 j2),n2,q2,p2⟩) (hy3:ev S y3=some ⟨0,.sc (.int k3 j3),n3,q3,p3⟩) (e1:j1=(i1:Int)) (e2:j2=(i2:Int)) (e3:j3=(i3:Int)) (lI:i1<=i2) (vG:i2<=i3) (h3:i3<=len) :
  AOp P w0 U0 nt ops o (gs++(rd x++(rd y++(rd y2++rd y3)))) [] S [(d,.no)]:=
 j9 hg hd hn h5 (fun k hk=>mem_append_left _ hk) fun s hs a w D hv hm=>by obtain ⟨kN,ao,m,cap,ao',h1,h2,uF,h4,h6,h7⟩:RN n/\SlV (hv n) lo len z (a.eval x):=l9 hm (fun k hk=>hs k (mem_append_right _ (mem_append_left _ hk))) hx;have f1:=v7 hm (fun k hk=>hs k (mem_append_right _ (mem_append_right _ (mem_append_left _ hk)))) hy;have f2:=v7 hm (fun k hk=>hs k (mem_append_right _ (mem_append_right _ (mem_append_right _ (mem_append_left _ hk))))) iE;have f3:=v7 hm (fun k hk=>hs k (mem_append_right _ (mem_append_right _ (mem_append_right _ (mem_append_right _ hk))))) hy3;have kC:=C2 (P:=P) (w:=w) hi;have b3:=D5 (P:=P) (w:=w) (k:=k3) (j:=i3) (y:=cap-lo) (code := .slice3Acap) (by omega);have b2:=D5 (P:=P) (w:=w) (k:=k2) (j:=i2) (y:=i3) (code := .slice3B) vG;have b1:=D5 (P:=P) (w:=w) (k:=k) (j:=i1) (y:=i2) (code := .slice3C) lI;subst e1 e2 e3;refine ⟨.slice (if i3=i1 then ao' else ao'.map (·.add (i1*z))) (i2-i1) (i3-i1),?_,trivial⟩;generalize a.eval=ρ at h2 f1 f2 f3 |-;simp [execOp,ho,Instr.sliceAt,Instr.slice,run_underlying hu,h2,f1,f2,f3,Instr.sliceBounds,b1,b2,b3,kC]
theorem zbx {P:Program} {w0:World} {U0:UX} {nt:Nat} {ops:Array Oper} {o:Oper} {S:Nat->Option AV} {gs:List Nat} {d:Nat} {x:Operand} {y:Operand} {y2:Operand} {y3:Operand} {t:TypeId} {e:TypeId} {z:Nat} {k:IntKind} {k2:IntKind} {k3:IntKind} {j1:Int} {j2:Int} {j3:Int} {n} {lo} {len} {n1} {q1} {p1} {n2} {q2} {p2} {n3} {q3} {p3} (i1:Nat) (i2:Nat) (i3:Nat) (p:Gd w0 U0 nt ops o gs S:=by exact gN rfl) (q:o.dst=some d:=by exact rfl) (r:Nat.blt d nt=true:=by exact rfl) (u:Nat.blt d 100000=true:=by exact rfl) (v:o.op = .slice t x (some y) (some y2) (some y3):=by exact rfl) (A:P.underlying t=some (.slice e):=by exact rfl) (B:(P.info? e).map (·.size)=some z:=by exact rfl) (C:ev S x=some (.sl n lo len z):=by exact rfl) (E:ev S y=some ⟨0,.sc (.int k j1),n1,q1,p1⟩:=by exact rfl) (F:ev S y2=some ⟨0,.sc (.int k2 j2),n2,q2,p2⟩:=by exact rfl) (G:ev S y3=some ⟨0,.sc (.int k3 j3),n3,q3,p3⟩:=by exact rfl) (H:j1=(i1:Int):=by first | rfl | omega | (simp only [length_set,length_map,length_append,length_cons,length_nil]<;>omega) | (simp<;>omega)) (e2:j2=(i2:Int):=by first | rfl | omega | (simp only [length_set,length_map,length_append,length_cons,length_nil]<;>omega) | (simp<;>omega)) (e3:j3=(i3:Int):=by first | rfl | omega | (simp only [length_set,length_map,length_append,length_cons,length_nil]<;>omega) | (simp<;>omega)) (lI:i1<=i2:=by first | rfl | omega | (simp only [length_set,length_map,length_append,length_cons,length_nil]<;>omega) | (simp<;>omega)) (vG:i2<=i3:=by first | rfl | omega | (simp only [length_set,length_map,length_append,length_cons,length_nil]<;>omega) | (simp<;>omega)) (h3:i3<=len:=by first | rfl | omega | (simp only [length_set,length_map,length_append,length_cons,length_nil]<;>omega) | (simp<;>omega)):AOp P w0 U0 nt ops o (gs++(rd x++(rd y++(rd y2++rd y3)))) [] S [(d,.no)]:=c0G i1 i2 i3 p q r u v A B C E F G H e2 e3 lI vG h3
theorem c0E (i1 i2:Nat) (hg:Gd w0 U0 nt ops o gs S) (hd:o.dst=some d) (hn:Nat.blt d nt=true) (h5:Nat.blt d 100000=true) {x y y2:Operand} {t e e':TypeId} {z:Nat} {l:List CV} {k k2:IntKind} {j1 j2:Int} {n len n1 q1 p1 n2 q2 p2} (ho:o.op = .slice t x (some y) (some y2) none) (hu:P.underlying t=some (.slice e)) (hi:(P.info? e).map (·.size)=some z) (hx:ev S x=some (.sl n 0 len z)) (hy:ev S y=some ⟨0,.sc (.int k j1),n1,q1,p1⟩) (iE:ev S y2=some ⟨0,.sc (.int k2 j2),n2,q2,p2⟩) (bQ:S n=some (.mrow e' z l)) (e1:j1=(i1:Int)) (e2:j2=(i2:Int)) (lI:i1<=i2) (h3:i2<=l.length) :
  AOp P w0 U0 nt ops o (gs++(rd x++(rd y++(rd y2++[n])))) [] S [(d,.sl n i1 (i2-i1) z)]:=
 j9 hg hd hn h5 (fun k hk=>mem_append_left _ hk) fun s hs a w D hv hm=>by
  obtain ⟨kN,ao,m,cap,ao',h1,h2,uF,h4,h6,h7⟩:RN n/\SlV (hv n) 0 len z (a.eval x):=l9 hm (fun k hk=>hs k (mem_append_right _ (mem_append_left _ hk))) hx;have f1:=v7 hm (fun k hk=>hs k (mem_append_right _ (mem_append_right _ (mem_append_left _ hk)))) hy;have f2:=v7 hm (fun k hk=>hs k (mem_append_right _ (mem_append_right _ (mem_append_right _ (mem_append_left _ hk))))) iE;obtain ⟨xs,g1,g2,g3,g4⟩:=hm.mrow ((hs n (by simp)).trans bQ) kN;obtain ⟨ao2,cap2,c1,c2,_⟩:=L2 g1;have pW:l.length<=cap:=by rw [h1] at c1;injection c1 with _ _ c3;omega
  have kC:=C2 (P:=P) (w:=w) hi;have b2:=D5 (P:=P) (w:=w) (k:=k2) (j:=i2) (y:=cap) (code := .sliceAcap) (by omega);have b1:=D5 (P:=P) (w:=w) (k:=k) (j:=i1) (y:=i2) (code := .sliceB) lI;subst e1 e2;have h2:a.eval x = .slice ao len cap:=by rw [h2,h4 rfl];rfl
  refine ⟨.slice (if cap=i1 then ao else ao.map (·.add (i1*z))) (i2-i1) (cap-i1),?_,kN,ao,m,cap,_,h1,rfl,by show i1+(i2-i1)<=cap;omega,fun h8=>?_,fun h8=>?_,?_⟩
  ·generalize a.eval=ρ at h2 f1 f2 |-;simp [execOp,ho,Instr.sliceAt,Instr.slice,run_underlying hu,h2,f1,f2,Instr.sliceBounds,b1,b2,kC]
  ·have h8:i1=0:=h8;subst h8;split
   ·rfl
   ·cases ao with
    | none=>rfl
    | some ad=>simp [Addr.add]
  ·have h8:i1<cap:=h8;intro g dC;rw [if_neg (by omega),dC];show some ((⟨g,0,none⟩:Addr).add (i1*z))=some ⟨g,i1*z,none⟩;rw [V7,Nat.zero_add]
  ·split
   ·exact Iff.rfl
   ·rw [Option.map_eq_none_iff]
theorem zbz {P:Program} {w0:World} {U0:UX} {nt:Nat} {ops:Array Oper} {o:Oper} {S:Nat->Option AV} {gs:List Nat} {d:Nat} {x:Operand} {y:Operand} {y2:Operand} {t:TypeId} {e:TypeId} {e':TypeId} {z:Nat} {l:List CV} {k:IntKind} {k2:IntKind} {j1:Int} {j2:Int} {n} {len} {n1} {q1} {p1} {n2} {q2} {p2} (i1:Nat) (i2:Nat) (p:Gd w0 U0 nt ops o gs S:=by exact gN rfl) (q:o.dst=some d:=by exact rfl) (r:Nat.blt d nt=true:=by exact rfl) (u:Nat.blt d 100000=true:=by exact rfl) (v:o.op = .slice t x (some y) (some y2) none:=by exact rfl) (A:P.underlying t=some (.slice e):=by exact rfl) (B:(P.info? e).map (·.size)=some z:=by exact rfl) (C:ev S x=some (.sl n 0 len z):=by exact rfl) (E:ev S y=some ⟨0,.sc (.int k j1),n1,q1,p1⟩:=by exact rfl) (F:ev S y2=some ⟨0,.sc (.int k2 j2),n2,q2,p2⟩:=by exact rfl) (G:S n=some (.mrow e' z l):=by exact rfl) (H:j1=(i1:Int):=by first | rfl | omega | (simp only [length_set,length_map,length_append,length_cons,length_nil]<;>omega) | (simp<;>omega)) (e2:j2=(i2:Int):=by first | rfl | omega | (simp only [length_set,length_map,length_append,length_cons,length_nil]<;>omega) | (simp<;>omega)) (lI:i1<=i2:=by first | rfl | omega | (simp only [length_set,length_map,length_append,length_cons,length_nil]<;>omega) | (simp<;>omega)) (h3:i2<=l.length:=by first | rfl | omega | (simp only [length_set,length_map,length_append,length_cons,length_nil]<;>omega) | (simp<;>omega)):AOp P w0 U0 nt ops o (gs++(rd x++(rd y++(rd y2++[n])))) [] S [(d,.sl n i1 (i2-i1) z)]:=c0E i1 i2 p q r u v A B C E F G H e2 lI h3
theorem c0V (hg:Gd w0 U0 nt ops o gs S) (hd:o.dst=some d) (hn:Nat.blt d nt=true) (h5:Nat.blt d 100000=true) {x y:Operand} {t e size bytes:Nat} {zv:Value} {l:List CV} {n len lo2 len2} (ho:o.op = .call { callee := .builtin .append,args := #[x,y],argTypes := #[t,t] }) (ht:P.underlying t=some (.slice e)) (hi:(P.info? e).map (fun i=>(i.zero,i.size,i.bytes))=some (some zv,size,bytes))
  (hx:ev S x=some (.sl n 0 len size)) (hy:ev S y=some (.sl n lo2 len2 size)) (bQ:S n=some (.mrow e size l)) (hl:len+len2<=l.length) (kL:lo2+len2<=l.length) :
  AOp P w0 U0 nt ops o (gs++(rd x++(rd y++[n]))) [] S [(d,.sl n 0 (len+len2) size),(n,.mrow e size (l.take len++((l.drop lo2).take len2++l.drop (len+len2))))]:=by
 intro s hs hN a w ⟨D,hv,h⟩ Q K hK;rw [if_pos (hg s (fun k hk=>hs k (mem_append_left _ hk)) a w D hv h)];obtain ⟨kN,ao,m,cap,ao',h1,h2,h3,h4,h6,h7⟩:RN n/\SlV (hv n) 0 len size (a.eval x):=l9 h (fun k hk=>hs k (mem_append_right _ (mem_append_left _ hk))) hx;obtain ⟨_,ao2,m2,cap2,ao2',j1,j2,j3,j4,j6,j7⟩:RN n/\SlV (hv n) lo2 len2 size (a.eval y):=l9 h (fun k hk=>hs k (mem_append_right _ (mem_append_right _ (mem_append_left _ hk)))) hy;have h2:a.eval x = .slice ao len cap:=by rw [h2,h4 rfl];rfl
 obtain ⟨i,bT,cO,cN,fD⟩:=info_parts hi;have kH:l8 n:=by unfold RN at kN;unfold l8;omega
 have hm:=(hs n (by simp)).trans bQ;obtain ⟨xs,g1,g2,g3,g4⟩:=h.mrow hm kN;obtain ⟨ao3,cap3,c1,c2,_⟩:=L2 g1;have eF:l.length<=cap:=by rw [h1] at c1;injection c1 with _ _ c3;omega
 have gI:SlV (hv n) 0 (len+len2) size (.slice ao (len+len2) cap):=⟨ao,m,cap,ao,h1,rfl,by omega,fun _=>rfl,fun _ g dC=>by rw [dC,Nat.zero_mul],Iff.rfl⟩
 by_cases hz:len2=0
 ·subst hz;have he:(execOp a.eval o).run P w = .ok (.value (.slice ao len cap)) w:=by
   have cY:len<=cap:=by omega
   generalize a.eval=ρ at h2 j2 |-;cases ao<;>cases ao2'<;>simp [execOp,ho,resolve,invoke,builtin,h2,j2,Builtin.append_,run_underlying ht,sizeOf,typeInfo,bT,Builtin.lenOf,Builtin.firstCells,loadCells,loadCellsFrom,storeCells,cY,Result.andThen]
  unfold Oper.wp;rw [he,Oper.upon_value,hd];have cA:l.take len++((l.drop lo2).take 0++l.drop (len+0))=l:=by simp
  refine hK _ _ ⟨D,hv,?_⟩;rw [cA];have hP:=h.put (d:=d) (av := .sl n 0 (len+0) size) (v := .slice ao len cap) (bL hn) (bL h5) ⟨kN,by rw [Nat.add_zero] at gI |-;exact gI⟩;refine hP.congr fun k=>?_;show look ((d,_)::(n,AV.mrow e size l)::s) k=look ((d,_)::s) k;rw [j8,j8,j8];split
  ·rfl
  ·split
   ·rename_i e;rw [<-e];exact hm.symm
   ·rfl
 obtain ⟨g,cap',cur,f1,f2,f3,f4,f6,f7,f8,f9⟩:=X9 g1 (by omega);obtain rfl:cap=cap':=by rw [f1] at h1;injection h1 with k1 k2 k3;exact k3.symm
 obtain rfl:ao=some ⟨g,0,none⟩:=by rw [f1] at h1;injection h1 with k1 k2 k3;exact k1.symm
 obtain rfl:cap=cap2:=by rw [f1] at j1;injection j1 with k1 k2 k3
 obtain rfl:ao2=some ⟨g,0,none⟩:=by rw [f1] at j1;injection j1 with k1 k2 k3;exact k1.symm
 have ha:ao2'=some ⟨g,lo2*size,none⟩:=j6 (by omega) g rfl;subst ha
 have pZ:l=l.take lo2++((l.drop lo2).take len2++(l.drop lo2).drop len2):=by rw [take_append_drop,take_append_drop]
 have q4:=g4;rw [pZ,map_append,map_append] at q4;obtain ⟨x1,x4,ex1,t1,t2⟩:=x0 q4;obtain ⟨zs,x3,ex2,t3,t4⟩:=x0 t2;have iK:x1.length=lo2*size:=by rw [A5 (n:=CV.size) (fun c _ xs h=>h.len) t1,r8 (fun c hc=>g3 c (mem_of_mem_take hc)),length_take,Nat.min_eq_left (by omega)]
 have cP:zs.length=len2*size:=by rw [A5 (n:=CV.size) (fun c _ xs h=>h.len) t3,r8 (fun c hc=>g3 c (mem_of_mem_drop (mem_of_mem_take hc))),length_take,List.length_drop,Nat.min_eq_left (by omega)]
 have dP:∀ v∈zs,v.oneCell'=true:=F5 t3;have lK:xs.length=l.length*size:=g1.1;have hcl2:len*size+len2*size<=l.length*size:=by rw [<-Nat.add_mul];exact Nat.mul_le_mul_right _ hl
 have hcl3:lo2*size+len2*size<=l.length*size:=by rw [<-Nat.add_mul];exact Nat.mul_le_mul_right _ kL
 have pW:l.length*size<=cap*size:=Nat.mul_le_mul_right _ f3;have f7:cur.toList.take (l.length*size)=xs:=f7;have f6:cur.size=cap*size:=f6;have bY:∀ j u,zs[j]?=some u->w.cell? ((⟨g,lo2*size,none⟩:Addr).add j)=some u:=fun j u hj=>by
  have gJ:j<zs.length:=by
   rcases Nat.lt_or_ge j zs.length with h | h
   ·exact h
   ·rw [getElem?_eq_none h] at hj;cases hj
  rw [V7];have hc:xs[lo2*size+j]?=some u:=by rw [ex1,ex2,<-iK,List.getElem?_append_right (by omega),Nat.add_sub_cancel_left,List.getElem?_append_left gJ];exact hj
  have kT:w.ownsRow 0 e size (.slice (some ⟨g,0,none⟩) l.length cap) l.length xs:=by rw [<-f1];exact g1
  rw [kT.cellAt _ (by omega)];exact hc
 have hr:=run_append_room (P:=P) w t o.type e i ht bT g len cap cur f2 ⟨g,lo2*size,none⟩ len2 (cap-lo2) zs (by rw [cN];exact cP) bY dP (by omega) (by rw [cN,cP,f6];omega);rw [cN] at hr;have he:(execOp a.eval o).run P w = .ok (.value (.slice (some ⟨g,0,none⟩) (len+len2) cap)) (w.setRow g (cur.toList.take (len*size)++zs++cur.toList.drop (len*size+zs.length)).toArray):=by generalize a.eval=ρ at h2 j2 |-;simp [execOp,ho,resolve,invoke,builtin,h2,j2,hr,Result.andThen]
 unfold Oper.wp;rw [he,Oper.upon_value,hd];obtain ⟨l',cA⟩:∃ l',l'=l.take len++((l.drop lo2).take len2++l.drop (len+len2)):=⟨_,rfl⟩
 have dI:l'.length=l.length:=by rw [cA];simp;omega
 refine hK _ _ ?_;rw [<-cA]
 suffices hG:SimG w0 U0 nt ((n,.mrow e size l')::s) a (w.setRow g (cur.toList.take (len*size)++zs++cur.toList.drop (len*size+zs.length)).toArray) D hv from ⟨_,_,hG.put (bL hn) (bL h5) ⟨kN,gI⟩⟩
 refine h.store (av := .mrow e size l') kH hm (by simp) (by simp) rfl (fun g' hn o _=>hn o (by simp)) (by simp) f9 f2 fun w' hw bC=>?_;have gS:l=l.take len++((l.drop len).take len2++(l.drop len).drop len2):=by rw [take_append_drop,take_append_drop]
 have g4':=g4;rw [gS,map_append,map_append] at g4';obtain ⟨y1,r1,e1,s1,s2⟩:=x0 g4';obtain ⟨y2,y3,e2,s3,s4⟩:=x0 s2;have lP:y1.length=len*size:=by rw [A5 (n:=CV.size) (fun c _ xs h=>h.len) s1,r8 (fun c hc=>g3 c (mem_of_mem_take hc)),length_take,Nat.min_eq_left (by omega)]
 have iE:y2.length=len2*size:=by rw [A5 (n:=CV.size) (fun c _ xs h=>h.len) s3,r8 (fun c hc=>g3 c (mem_of_mem_drop (mem_of_mem_take hc))),length_take,List.length_drop,Nat.min_eq_left (by omega)]
 have hy3:y1.length+(y2.length+y3.length)=l.length*size:=by have:=lK;rw [e1,e2] at this;simpa using this
 have eZ:cur.toList=y1++(y2++(y3++cur.toList.drop (l.length*size))):=by
  conv=>lhs;rw [<-take_append_drop (l.length*size) cur.toList,f7,e1,e2]
  simp
 have bU:cur.toList.take (len*size)++zs++cur.toList.drop (len*size+zs.length)=(y1++(zs++y3))++cur.toList.drop (l.length*size):=by
  have t1:cur.toList.take (len*size)=y1:=by rw [eZ,<-lP];simp
  have t2:cur.toList.drop (len*size+zs.length)=y3++cur.toList.drop (l.length*size):=by
   rw [cP,<-lP,<-iE]
   conv=>lhs;rw [eZ]
   rw [<-List.append_assoc,List.drop_append_of_le_length (by simp)];simp
  rw [t1,t2];simp
 rw [bU] at hw;refine ⟨y1++(zs++y3),⟨?_,.inr ⟨g,cap,_,?_,Nat.zero_le _,hw,?_,f4,?_,?_⟩⟩,g2,fun x hx=>?_,?_⟩
 ·show _=l'.length*size;rw [dI];simp only [length_append,cP];omega
 ·show hv n = .slice _ l'.length cap;rw [dI];exact f1
 ·show l'.length<=cap;rw [dI];exact f3
 ·have:=congrArg List.length eZ;rw [Array.length_toList,f6] at this;simp only [List.size_toArray,length_append,cP] at this |-;show _=cap*size;omega
 ·show List.take (l'.length*size) _=_;rw [dI,List.take_append_of_le_length (by simp only [length_append,cP];omega),List.take_of_length_le (by simp only [length_append,cP];omega)]
 ·have hx:x∈l':=hx;rw [cA,List.mem_append,List.mem_append] at hx;rcases hx with hx | hx | hx
  ·exact g3 x (mem_of_mem_take hx)
  ·exact g3 x (mem_of_mem_drop (mem_of_mem_take hx))
  ·exact g3 x (mem_of_mem_drop hx)
 ·show Sq (l'.map fun c=>Rep (Us w0 U0 D) w' c) _;rw [cA,map_append,map_append];refine x8 (Sq.keep bC s1) (x8 (Sq.keep bC t3) ?_);rw [<-List.drop_drop];exact Sq.keep bC s4
theorem zby {P:Program} {w0:World} {U0:UX} {nt:Nat} {ops:Array Oper} {o:Oper} {S:Nat->Option AV} {gs:List Nat} {d:Nat} {x:Operand} {y:Operand} {t:Nat} {e:Nat} {size:Nat} {bytes:Nat} {zv:Value} {l:List CV} {n} {len} {lo2} {len2} (p:Gd w0 U0 nt ops o gs S:=by exact gN rfl) (q:o.dst=some d:=by exact rfl) (r:Nat.blt d nt=true:=by exact rfl) (z:Nat.blt d 100000=true:=by exact rfl) (A:o.op = .call { callee := .builtin .append,args := #[x,y],argTypes := #[t,t] }:=by exact rfl) (B:P.underlying t=some (.slice e):=by exact rfl) (C:(P.info? e).map (fun i=>(i.zero,i.size,i.bytes))=some (some zv,size,bytes):=by exact rfl) (E:ev S x=some (.sl n 0 len size):=by exact rfl) (F:ev S y=some (.sl n lo2 len2 size):=by exact rfl) (G:S n=some (.mrow e size l):=by exact rfl) (H:len+len2<=l.length:=by first | rfl | omega | (simp only [length_set,length_map,length_append,length_cons,length_nil]<;>omega) | (simp<;>omega)) (kL:lo2+len2<=l.length:=by first | rfl | omega | (simp only [length_set,length_map,length_append,length_cons,length_nil]<;>omega) | (simp<;>omega)):AOp P w0 U0 nt ops o (gs++(rd x++(rd y++[n]))) [] S [(d,.sl n 0 (len+len2) size),(n,.mrow e size (l.take len++((l.drop lo2).take len2++l.drop (len+len2))))]:=c0V p q r z A B C E F G H kL
end
def M3:Value->Nat->Value
 | .slice ao _ cap,len => .slice ao len cap
 | v,_=>v
def a5N (P:Program) (f:FuncId) (pre:AS) (n1 n2:Nat) (args:Value->Value->List AV) (r:Value->Value->AV) (post:AS):Prop:=
 a2V P f/\∀ (U:UX) (w:World) (hv:Nat->Value) (a0:Act) (vs:List Value),(∀ k v,U.f k=some v->l7 (kO pre) k=true)->SimG w U 0 pre a0 w (fun _ _=>False) hv->AVReps (Us w U (fun _ _=>False)) w hv (a9 pre) (args (hv n1) (hv n2)) vs ->
  Calls P f vs.toArray w fun e w'=>∃ v D' kG a',e = .returned v/\SimG w U 0 post a' w' D' kG/\AVRep (Us w U D') w' kG (a9 post) (r (hv n1) (hv n2)) v
section
variable {P:Program} {w0:World} {U0:UX} {nt:Nat} {ops:Array Oper} {o:Oper} {S:Nat->Option AV} {gs:List Nat} {d:Nat} {s:AS} {a:Act} {w:World} {D:Nat->Nat->Prop} {hv:Nat->Value}
theorem a4J (d1 n1 d2 n2 : Nat) {f : FuncId} {fn : Func} {c : Code} {pre post : AS} {args : Value → Value → List AV} {r : Value → Value → AV} (hf : P.funcs[f]? = some fn) (hn : fn.ntmps = nt) (gL : (fn.name == "runtime.NumGoroutine") = false) (hb : fn.body = some c) (hl : ∀ v1 v2, Nat.ble (args v1 v2).length nt = true) (qO : (Nat.blt d1 nt && Nat.blt d2 nt) = true) (iJ : (Nat.ble 200000 n1 && Nat.blt n1 450000 && (Nat.ble 200000 n2 && Nat.blt n2 450000)) = true) (cE : Nat.blt nt 100000 = true) (gC : (kO pre).all (Nat.ble 100000) = true) (kQ : (kO post).all (Nat.ble 100000) = true)
  (h:∀ (v1 v2:Value) (w:World) (U:UX),(∀ k v,U.f k=some v->l7 (kO pre) k=true)->AWp P w U nt c (fun e s'=>(e = .normal\/e = .ret)/\b8s P w U nt fn s' (r v1 v2) post) ((d1,.hdl v1 n1)::(d2,.hdl v2 n2)::(C3 (args v1 v2) 0++pre))):a5N P f pre n1 n2 args r post:=by
 refine ⟨x9 hf gL (by rw [hb];rfl),fun U w hv a0 vs hU gE hargs=>?_⟩;have kD:=hargs.len;refine calls_of_wp hf hb ?_;have cY:=Nat.le_of_ble_eq_true (hl (hv n1) (hv n2));have cE:=bL cE;have kV:∀ {k av},look pre k=some av->100000<=k:=fun {k av} h1=>by rw [all_eq_true] at gC;exact Nat.le_of_ble_eq_true (gC k (i8 h1))
 have kB:∀ {k},100000<=k->look (C3 (args (hv n1) (hv n2)) 0++pre) k=look pre k:=fun {k} h1=>by
  rw [b9];cases h2:look (C3 (args (hv n1) (hv n2)) 0) k with
  | none=>rfl
  | some av =>
   obtain ⟨_,h3⟩:=w8 h2;rw [Nat.sub_zero,getElem?_eq_none (by omega)] at h3;cases h3
 have kI:a9 (C3 (args (hv n1) (hv n2)) 0++pre)=a9 pre:=by
  funext n;unfold a9 t7;apply propext;constructor
  ·rintro (h1 | ⟨e,h1,h2,h3⟩)
   ·exact .inl h1
   ·rw [kB (by omega)] at h1;exact .inr ⟨e,h1,h2,h3⟩
  ·rintro (h1 | ⟨e,h1,h2,h3⟩)
   ·exact .inl h1
   ·exact .inr ⟨e,by rw [kB (by omega)];exact h1,h2,h3⟩
 have eE:SimG w U nt (C3 (args (hv n1) (hv n2)) 0++pre) { tmps:=vs.toArray++Array.replicate (fn.ntmps-vs.toArray.size) undef,defers:=[] } w (fun _ _=>False) hv:=by
  refine ⟨gE.below,rfl,by simp [hn];omega,fun d av h1 h2=>?_,fun n o av h1 h2 h3 h4=>?_,fun n o o' av av' h1 h2=>?_,fun k av h1 h2=>?_,fun k av g h1 h2=>?_,fun k k' av av' g h1 h2 h3 h4=>?_,gE.fix,fun b o hd=>hd.elim⟩
  ·rw [b9] at h1;cases h3:look (C3 (args (hv n1) (hv n2)) 0) d with
   | none =>
    rw [h3] at h1;have:=kV h1;omega
   | some av' =>
    rw [h3] at h1;cases h1;obtain ⟨_,h4⟩:=w8 h3;rw [Nat.sub_zero] at h4;obtain ⟨v,h6,h7⟩:=hargs.at h4;have hdl:d<vs.length:=by
     rcases Nat.lt_or_ge d vs.length with h | h
     ·exact h
     ·rw [getElem?_eq_none h] at h6;cases h6
    rw [kI];refine ⟨v,?_,h7⟩;rw [Array.getElem?_append_left (by simpa using hdl)];simpa using h6
  ·rw [kB (by unfold f0;omega)] at h1;rw [kB (by omega)] at h3;rw [kI];exact gE.fld n o av h1 h2 h3 h4
  ·rw [kB (by unfold f0;omega)] at h1 h2;exact gE.fdis n o o' av av' h1 h2
  ·rw [kB h2.1] at h1;rw [kI];exact gE.obj k av h1 h2
  ·rw [kB h2.1] at h1;exact gE.blk k av g h1 h2
  ·rw [kB h3.1] at h1;rw [kB h4.1] at h2;exact gE.disj k k' av av' g h1 h2 h3 h4
 simp only [Bool.and_eq_true] at qO iJ;have fE:d1<nt:=bL qO.1;have gW:d2<nt:=bL qO.2;have iM:RN n1:=⟨Nat.le_of_ble_eq_true iJ.1.1,bL iJ.1.2⟩
 have iY:RN n2:=⟨Nat.le_of_ble_eq_true iJ.2.1,bL iJ.2.2⟩
 have dT:=eE.know (d:=d2) (av := .hdl (hv n2) n2) (by omega) (Array.getElem?_eq_getElem (by rw [eE.size];exact gW)) ⟨iY,rfl⟩;have nN:=dT.know (d:=d1) (av := .hdl (hv n1) n1) (by omega) (Array.getElem?_eq_getElem (by rw [eE.size];exact fE)) ⟨iM,rfl⟩;have hs:Sim w U nt ((d1,.hdl (hv n1) n1)::(d2,.hdl (hv n2) n2)::(C3 (args (hv n1) (hv n2)) 0++pre)) { tmps:=vs.toArray++Array.replicate (fn.ntmps-vs.toArray.size) undef,defers:=[] } w:=⟨_,_,nN⟩
 refine wp_mono ((h (hv n1) (hv n2) w U hU ⟨none,[]⟩ _ w hs).wp rfl (fun e a w ⟨s,_,h⟩=>h.df)) ?_;rintro e a' w' ⟨s',⟨h1,s2,g1,g2,g3⟩,h3⟩;obtain ⟨D',kG,h4⟩:=g1 a' w' h3;obtain ⟨v,h5,h6⟩:=R2 h4 g2;have hS:=h4.sub g3.sub;have gT:∀ {k av},look post k=some av->100000<=k:=fun {k av} h1=>by rw [all_eq_true] at kQ;exact Nat.le_of_ble_eq_true (kQ k (i8 h1))
 have jP:SimG w U 0 post ⟨#[],[]⟩ w' D' kG:=⟨hS.below,rfl,rfl,fun d av h7 h8=>by have:=gT h7;omega,hS.fld,hS.fdis,hS.obj,hS.blk,hS.disj,hS.fix,hS.dlt⟩
 rcases h1 with rfl | rfl
 ·exact ⟨h4.dfr,v,h5,v,D',kG,_,rfl,jP,h6.move (fun _ _ _ h1 h2=>⟨h1,h2⟩) (fun _ h7=>h7.imp id fun ⟨e,he⟩=>⟨e,g3.sub _ _ he.1,he.2⟩) fun _=>rfl⟩
 ·exact ⟨h4.dfr,v,h5,v,D',kG,_,rfl,jP,h6.move (fun _ _ _ h1 h2=>⟨h1,h2⟩) (fun _ h7=>h7.imp id fun ⟨e,he⟩=>⟨e,g3.sub _ _ he.1,he.2⟩) fun _=>rfl⟩
theorem b8x (dh1 dh2:Nat) {f:FuncId} {xs:Array Operand} {ts:Array TypeId} {ar:Value->Value->List AV} {rr:Value->Value->AV} {pre post:AS} {n1 n2:Nat} {u1 u2:Value} (hg:Gd w0 U0 nt ops o gs S) (hd:o.dst=some d) (hn:Nat.blt d nt=true) (h5:Nat.blt d 100000=true)
  (ho:o.op = .call { callee := .value (.func f),args:=xs,argTypes:=ts }) (hc:a5N P f pre n1 n2 ar rr post) (qA:S dh1=some (.hdl u1 n1)) (hh2:S dh2=some (.hdl u2 n2)) (nX:(Nat.blt dh1 100000&&Nat.blt dh2 100000)=true) (hx:a4u S xs.toList=some (ar u1 u2)) (hp:SubS S pre) (hl:pre.all E4=true) (hq:post.all (G1 (kO post))=true) (jN:(kO pre).all (l7 (kO post))=true) (hr:a2W (kO post) (rr u1 u2)=true) (hnb:∀ k v,U0.f k=some v->l7 (kO post) k=true->l7 (kO pre) k=true) :
  AOp P w0 U0 nt ops o (gs++(rdl xs.toList++(kO pre++[dh1,dh2]))) (I8 (kO pre) (kO post) (kO post)) S ((d,rr u1 u2)::post):=by
 intro s hs hN a w ⟨D,hv,h⟩ Q K hK;rw [if_pos (hg s (fun k hk=>hs k (mem_append_left _ hk)) a w D hv h)];have hargs:=R0 h (fun k hk=>hs k (mem_append_right _ (mem_append_left _ hk))) hx;have kJ:Sub s pre:=fun k av h1=>(hs k (mem_append_right _ (mem_append_right _ (mem_append_left _ (i8 h1))))).trans (hp.look h1);obtain ⟨V,v1,v2,v3,v4,v5,v6⟩:=h.lend kJ hl;obtain ⟨h1,h2⟩:=hc;rw [Bool.and_eq_true] at nX;obtain ⟨_,_,iK⟩:∃ v,a.tmps[dh1]?=some v/\RN n1/\hv n1=u1:=h.slot dh1 _ ((hs dh1 (by simp)).trans qA) (bL nX.1);obtain ⟨_,_,jA⟩:∃ v,a.tmps[dh2]?=some v/\RN n2/\hv n2=u2:=h.slot dh2 _ ((hs dh2 (by simp)).trans hh2) (bL nX.2);have h2:=fun V a0 vs q1 q2 q3=>h2 V w hv a0 vs q1 q2 q3;rw [iK.2,jA.2] at h2;have kK:=h2 V ⟨#[],[]⟩ _ v1 v2 (hargs.imp fun c _ v lE=>lE.move v6 (fun _ h3=>h3.imp id fun ⟨e,he⟩=>⟨e,kJ _ _ he.1,he.2⟩) fun _=>rfl);have he:(execOp a.eval o).run P w = .ok (.enter f (xs.toList.map a.eval).toArray) w:=by
  have hf:a.eval (.func f) = .func (.func f) #[] #[]:=rfl;have cR:=h1 (xs.map a.eval) w;have gR:(xs.toList.map a.eval).toArray=xs.map a.eval:=by apply Array.ext';simp
  rw [gR];generalize a.eval=ρ at hf cR |-;simp [execOp,ho,resolve,invoke,Deferred.ofValue,hf,cR]
 unfold Oper.wp;rw [he,Oper.upon_enter];refine kK.mono ?_;rintro e w' ⟨v,D',kG,a',rfl,h6,h7⟩;rw [hd];obtain ⟨D2,gI,h8,h9⟩:=h.back kJ hl hq jN hN hnb v3 v4 v5 v2 h6;exact hK _ _ ⟨D2,gI,h8.put (bL hn) (bL h5) (h9.1 (rr u1 u2) v hr h7)⟩
theorem zbA {P:Program} {w0:World} {U0:UX} {nt:Nat} {ops:Array Oper} {o:Oper} {S:Nat->Option AV} {gs:List Nat} {d:Nat} {f:FuncId} {xs:Array Operand} {ts:Array TypeId} {ar:Value->Value->List AV} {rr:Value->Value->AV} {pre:AS} {post:AS} {n1:Nat} {n2:Nat} {u1:Value} {u2:Value} (dh1:Nat) (dh2:Nat) (p:Gd w0 U0 nt ops o gs S:=by exact gN rfl) (q:o.dst=some d:=by exact rfl) (r:Nat.blt d nt=true:=by exact rfl) (t:Nat.blt d 100000=true:=by exact rfl) (u:o.op = .call { callee := .value (.func f),args:=xs,argTypes:=ts }:=by exact rfl) (x:a5N P f pre n1 n2 ar rr post) (y:S dh1=some (.hdl u1 n1):=by exact rfl) (z:S dh2=some (.hdl u2 n2):=by exact rfl) (A:(Nat.blt dh1 100000&&Nat.blt dh2 100000)=true:=by exact rfl) (B:a4u S xs.toList=some (ar u1 u2):=by exact rfl) (C:SubS S pre:=by repeat (first | exact trivial | refine ⟨rfl,?_⟩)) (E:pre.all E4=true:=by first | rfl | kernel_rfl) (F:post.all (G1 (kO post))=true:=by first | rfl | kernel_rfl) (G:(kO pre).all (l7 (kO post))=true:=by first | rfl | kernel_rfl) (H:a2W (kO post) (rr u1 u2)=true:=by first | rfl | kernel_rfl) (hnb:∀ k v,U0.f k=some v->l7 (kO post) k=true->l7 (kO pre) k=true):AOp P w0 U0 nt ops o (gs++(rdl xs.toList++(kO pre++[dh1,dh2]))) (I8 (kO pre) (kO post) (kO post)) S ((d,rr u1 u2)::post):=b8x dh1 dh2 p q r t u x y z A B C E F G H hnb
theorem b4B (nn:Nat) (hg:Gd w0 U0 nt ops o gs S) (hd:o.dst=some d) (hn:Nat.blt d nt=true) (h5:Nat.blt d 100000=true) {t e:TypeId} {len:Nat} {parts:Array (Nat×Operand)} {ie:TypeInfo} {z:Value} {cs:List CV} {sz:Nat} (ho:o.op = .buildSlice t len parts) (hu:P.underlying t=some (.slice e)) (hi:P.info? e=some ie) (rT:ie.size=sz) (hz:ie.zero=some z) (eB:a5K parts.toList 0=true) (hx:a0q S (parts.toList.map (·.2))=some cs) (hl:Nat.beq cs.length len=true) (kC:a5H cs sz=true) (hp:Nat.blt 0 (len*sz)=true) (pJ:Nat.ble (len*sz) 16777216=true) (bR:(Nat.ble 200000 nn&&Nat.blt nn 400000)=true) :
  AOp P w0 U0 nt ops o (gs++rdl (parts.toList.map (·.2))) [(nn,[])] S [(d,.sl nn 0 len sz),(nn,.mrow e sz cs)]:=by
 subst rT;intro s hs hN a w ⟨D,hv,h⟩ Q K hK;rw [if_pos (hg s (fun k hk=>hs k (mem_append_left _ hk)) a w D hv h)];have pB:=H5 h (fun k hk=>hs k (mem_append_right _ hk)) hx;rw [map_map] at pB;have kD:cs.length=len:=Nat.eq_of_beq_eq_true hl;have dE:=pB.len;have gM:=bL hp;have eE:0<ie.size:=Nat.pos_of_ne_zero fun e=>by rw [e] at gM;simp at gM
 have cI:=a0G pB (sZ kC);obtain ⟨vs,cX⟩:∃ vs,vs=parts.toList.map (a.eval∘(·.2)):=⟨_,rfl⟩
 rw [<-cX] at pB dE cI;obtain ⟨r,hf,iV,aG⟩:=Great.fill_dense eE vs 0 ((Array.range (len*ie.size)).map (z.cells[·% z.cells.size]!)) cI (by simp;rw [dE,kD];exact Nat.le_refl _);have hr:r.toList=(vs.map fun v=>v.cells.toList).flatten:=by
  apply List.ext_getElem?;intro k;rw [M9 eE _ (by intro v kG;rw [mem_map] at kG;obtain ⟨u,hu,rfl⟩:=kG;simpa using cI u hu)];have:=aG k;rw [<-Array.getElem?_toList] at this;simp only [Nat.zero_mul,Nat.zero_le,true_and,Nat.zero_add] at this;rw [this];by_cases hk:k<vs.length*ie.size
  ·rw [if_pos hk];simp only [Nat.sub_zero,List.getElem?_map];cases vs[k / ie.size]?<;>simp
  ·rw [if_neg hk,Array.getElem?_eq_none (by simp;rw [<-kD,<-dE];omega)];rw [List.getElem?_map,getElem?_eq_none (by rw [Nat.le_div_iff_mul_le eE];omega)];rfl
 have he:(execOp a.eval o).run P w = .ok (.value (.slice (some ⟨w.heap.size,0,none⟩) len len)) (w.alloc (.cells r e)):=by
  have aH:=Nat.le_of_ble_eq_true pJ;have kY:(parts.map fun x=>(x.1,a.eval x.2)).toList=(vs.zipIdx 0).map fun x=>(x.2,x.1):=by rw [Array.toList_map,a0A eB a.eval,cX];rfl
  have:=run_buildSlice (P:=P) w t e len (parts.map fun x=>(x.1,a.eval x.2)) r ie z hu hi hz (by omega) (by omega) (by rw [kY];exact hf);generalize a.eval=ρ at this |-;simp [execOp,ho,this]
 unfold Oper.wp;rw [he,Oper.upon_value,hd];have hrs':r.size=len*ie.size:=by rw [iV];simp
 have fZ:len<=maxLen:=by have:=Nat.le_of_ble_eq_true pJ;have:len<=len*ie.size:=Nat.le_mul_of_pos_right _ eE;unfold maxLen;omega
 have dR:=rnB bR;have kT:=World.ownsRow_lit (e:=e) (size:=ie.size) (base:=w.heap.size) w r len (Nat.le_refl _) fZ hrs';have bC:∀ b o u,Us w0 U0 D b o->w.cell? ⟨b,o,none⟩=some u->Us w0 U0 D b o/\(w.alloc (.cells r e)).cell? ⟨b,o,none⟩=some u:=fun b o u hu hc=>by refine ⟨hu,?_⟩;have kA:b<w.heap.size:=World.block_lt_of_cell? w _ hc;rw [World.cell?_of_block (w:=w) ((bA (Below.refl w.heap.size w) (.cells r e)).block b kA)];exact hc
 have hG:=h.newrow (avn := .mrow e ie.size cs) (v' := .slice (some ⟨w.heap.size,0,none⟩) len len) (D':=D) (X:=fun _=>False) (n:=nn) dR (hN (nn,[]) (by simp)).nr (by simp) ⟨(bA (Below.refl w.heap.size w) (.cells r e)).os,(bA (Below.refl w.heap.size w) (.cells r e)).tape,(bA (Below.refl w.heap.size w) (.cells r e)).output,(bA (Below.refl w.heap.size w) (.cells r e)).size,fun b hb hx=>(bA (Below.refl w.heap.size w) (.cells r e)).block b hb⟩ (fun b hb=>hb.elim) (fun g hg=>by
   have hg:(Value.slice (some ⟨w.heap.size,0,none⟩) len len).ownBlock=some g:=hg;refine ⟨.inr (kT.lt g hg).1,(kT.lt g hg).2,fun o _ hd=>?_⟩;have:=(kT.lt g hg).1;have:=h.dlt _ _ hd;omega) (fun b o hd => .inl hd) (fun b o hd=>Nat.lt_of_lt_of_le (h.dlt _ _ hd) (bA (Below.refl w.heap.size w) (.cells r e)).size) bC (fun hv lv=>by
   refine ⟨r.toList,?_,eE,sZ kC,?_⟩
   ·show (w.alloc (.cells r e)).ownsRow 0 e ie.size _ cs.length _;rw [kD];exact r9 kT (Nat.zero_le _)
   ·rw [hr];exact Sq.keep bC (X1 pB))
 refine hK _ _ ⟨_,_,hG.put (bL hn) (bL h5) ⟨RW.rn dR,?_⟩⟩;show SlV ((fun x=>if x=nn then Value.slice (some ⟨w.heap.size,0,none⟩) len len else hv x) nn) 0 len ie.size _;simp only [if_true];exact I3 rfl (Nat.le_refl _) (.inr ⟨_,rfl⟩)
theorem zbB {P:Program} {w0:World} {U0:UX} {nt:Nat} {ops:Array Oper} {o:Oper} {S:Nat->Option AV} {gs:List Nat} {d:Nat} {t:TypeId} {e:TypeId} {len:Nat} {parts:Array (Nat×Operand)} {ie:TypeInfo} {z:Value} {cs:List CV} {sz:Nat} (nn:Nat) (p:Gd w0 U0 nt ops o gs S:=by exact gN rfl) (q:o.dst=some d:=by exact rfl) (y:Nat.blt d nt=true:=by exact rfl) (A:Nat.blt d 100000=true:=by exact rfl) (B:o.op = .buildSlice t len parts:=by exact rfl) (C:P.underlying t=some (.slice e):=by exact rfl) (E:P.info? e=some ie:=by exact rfl) (F:ie.size=sz:=by exact rfl) (G:ie.zero=some z:=by exact rfl) (H:a5K parts.toList 0=true:=by exact rfl) (hx:a0q S (parts.toList.map (·.2))=some cs:=by exact rfl) (hl:Nat.beq cs.length len=true:=by exact rfl) (kC:a5H cs sz=true:=by exact rfl) (hp:Nat.blt 0 (len*sz)=true:=by exact rfl) (pJ:Nat.ble (len*sz) 16777216=true:=by exact rfl) (bR:(Nat.ble 200000 nn&&Nat.blt nn 400000)=true:=by exact rfl):AOp P w0 U0 nt ops o (gs++rdl (parts.toList.map (·.2))) [(nn,[])] S [(d,.sl nn 0 len sz),(nn,.mrow e sz cs)]:=b4B nn p q y A B C E F G H hx hl kC hp pJ bR
theorem AWp.hdl {c:Code} {Q:Exit->AS->Prop} (d n:Nat) (hd:Nat.blt d nt=true) (h5:Nat.blt d 100000=true) (hn:(Nat.ble 200000 n&&Nat.blt n 450000)=true) (h:∀ v,AWp P w0 U0 nt c Q ((d,.hdl v n)::s)):AWp P w0 U0 nt c Q s:=by
 intro M a w ⟨D,hv,hs⟩;have eB:d<a.tmps.size:=by rw [hs.size];exact bL hd
 exact h (hv n) M a w ⟨D,hv,hs.know (bL h5) (Array.getElem?_eq_getElem eB) ⟨rnF hn,rfl⟩⟩
theorem a0e (d n dh:Nat) {len z:Nat} {v:Value} (h1:look s d=some (.sl n 0 len z)) (h2:look s dh=some (.hdl v n)) (hd:(Nat.blt d 100000&&Nat.blt dh 100000)=true):Wk w0 U0 nt s ((d,.val (.sc (M3 v len)))::s):=by
 rintro a w ⟨D,hv,h⟩;rw [Bool.and_eq_true] at hd;obtain ⟨u,g1,kN,ao,m,cap,ao',e1,e2,e3,e4,e5,e6⟩:∃ u,a.tmps[d]?=some u/\RN n/\SlV (hv n) 0 len z u:=h.slot d _ h1 (bL hd.1);obtain ⟨_,_,_,hx⟩:∃ u,a.tmps[dh]?=some u/\RN n/\hv n=v:=h.slot dh _ h2 (bL hd.2);have e2:u = .slice ao len cap:=by rw [e2,e4 rfl];rfl
 refine ⟨D,hv,h.know (bL hd.1) g1 ?_⟩;rw [<-hx,e1];show AVRep _ _ _ _ (.val (.sc (.slice ao len cap))) u;rw [e2];exact p6 rfl
theorem b2Y (d n dh len:Nat) {e z:Nat} {l:List CV} {v:Value} (h1:look s d=some (.val (.sc (M3 v len)))) (h2:look s dh=some (.hdl v n)) (hm:look s n=some (.mrow e z l)) (hd:(Nat.blt d 100000&&Nat.blt dh 100000)=true) (hl:len<=l.length):Wk w0 U0 nt s ((d,.sl n 0 len z)::s):=by
 rintro a w ⟨D,hv,h⟩;rw [Bool.and_eq_true] at hd;obtain ⟨u,g1,g2⟩:=h.slot d _ h1 (bL hd.1);obtain ⟨_,_,kN,hx⟩:∃ u,a.tmps[dh]?=some u/\RN n/\hv n=v:=h.slot dh _ h2 (bL hd.2);obtain ⟨xs,f1,_⟩:=h.mrow hm kN;obtain ⟨ao,cap,e1,e2,_⟩:=L2 f1;have hu:u=M3 v len:=(n8.1 g2.1).1;refine ⟨D,hv,h.know (bL hd.1) g1 ⟨kN,?_⟩⟩;show SlV (hv n) 0 len z u;rw [hu,<-hx,e1];exact ⟨ao,l.length,cap,ao,rfl,rfl,by omega,fun _=>rfl,fun _ g dC=>by rw [dC,Nat.zero_mul],Iff.rfl⟩
def c2e:UX:=⟨fun _ _=>True,fun _=>False,fun _=>none,fun _ _ h=>by cases h⟩
theorem SimG.view (h:SimG w0 U0 nt s a w D hv) {n e z len:Nat} {l:List CV} (hm:look s n=some (.mrow e z l)) (kN:RN n) (hl:len<=l.length):VRep (fun _ _=>True) w (.lst (l.take len)) (M3 (hv n) len):=by
 obtain ⟨xs,ho,hz,kC,rS⟩:=h.mrow hm kN;obtain ⟨va,vc,ev,e2,e3,e4,e5⟩:=L6 ho;rw [ev];have gS:l=l.take len++l.drop len:=(take_append_drop _ _).symm;have q:=rS;rw [gS,map_append] at q;obtain ⟨y1,y2,ey,s1,s2⟩:=x0 q;refine l5.2 ⟨va,len,vc,rfl,by rw [length_take,Nat.min_eq_left hl],by omega,e3,(fun h=>⟨by have:=(e4 h).1;omega,(e4 h).2⟩),y1,?_,s1.keep fun b o v _ hc=>⟨trivial,hc⟩⟩;rcases e5 with h0 | ⟨b,off,ha,kA,hc⟩
 ·left;have:=congrArg List.length ey;rw [h0,length_append] at this;exact List.eq_nil_of_length_eq_zero (by simp at this;omega)
 ·refine .inr ⟨b,off,ha,fun i hi=>⟨trivial,?_⟩⟩;rw [hc i (by rw [ey,length_append];omega),ey,List.getElem?_append_left hi]
theorem SimG.viewBox (h:SimG w0 U0 nt s a w D hv) (n:Nat) {v:Value} {k q p k1 k2 k3} {c:CV} (hb:look s (100000+n)=some ⟨5,.sc v,k,q,p⟩) (hs:look s n=some ⟨2,⟨k1,k2,k3⟩,n,0,[]⟩) (hn:n<100000) (hc:c.k≠2) (gI:VRep (fun _ _=>True) w c v):∃ u,a.tmps[n]?=some u/\VRep (fun _ _=>True) w (.ptr c) u:=by
 obtain ⟨g,xs,ty,g0,g1,g2,g5⟩:=h.box hb (by omega);obtain ⟨v',g6,g7⟩:=h.slot n _ hs hn;have g7:v' = .pointer (some ⟨p7 (hv (100000+n)),0,none⟩):=g7.2;have rR:p7 (hv (100000+n))=g:=by rw [g0];rfl
 rw [rR] at g7;obtain rfl:xs=[v]:=(K0.1 g2).1;refine ⟨v',g6,?_⟩;rw [g7];refine X8.2 ⟨g,0,[v],rfl,?_,fun i hi=>⟨trivial,?_⟩⟩
 ·unfold VRep at gI;rw [if_neg hc] at gI;exact gI
 have:=G7 (ys:=[]) (us:=[]) g1 (by simp) i hi;simpa using this
theorem b6r {c:Code} {Q:Exit->AS->Prop} {R:Exit->Prop} (vs:List (Nat×CV)) (dr:Nat) (x:Value) (objs:AS)
  (vH:∀ a w D hv,SimG w0 U0 nt s a w D hv->∀ q∈vs,∃ v,a.tmps[q.1]?=some v/\VRep (fun _ _=>True) w q.2 v)
  (h:∀ w,AWp P w c2e nt c (fun e s'=>R e/\look s' dr=some (.val (.sc x))) (vs.map fun q=>(q.1,.val q.2)))
  (kJ:SubL s objs) (hk:(kO objs).all (Nat.ble 100000)=true) (hvk:(vs.all fun q=>Nat.blt q.1 100000)=true) (pD:Nat.blt dr 100000=true) (hQ:∀ e,R e->Q e ((dr,.val (.sc x))::objs)):AWp P w0 U0 nt c Q s:=by
 intro M a w ⟨D,hv,hs⟩;have kV:∀ {k av},look (vs.map fun q=>(q.1,AV.val q.2)) k=some av->∃ q∈vs,k=q.1/\av = .val q.2:=fun {k av} h1=>by obtain ⟨q,hq,he⟩:=mem_map.1 (C7 h1);injection he with e1 e2;exact ⟨q,hq,e1.symm,e2.symm⟩
 rw [all_eq_true] at hvk hk;have kA:∀ {k av},look (vs.map fun q=>(q.1,AV.val q.2)) k=some av->k<100000:=fun {k av} h1=>by obtain ⟨q,hq,rfl,_⟩:=kV h1;exact bL (hvk q hq)
 have hS:Sim w c2e nt (vs.map fun q=>(q.1,AV.val q.2)) a w:=by
  refine ⟨fun _ _=>False,hv,BelowX.refl _ _,hs.dfr,hs.size,fun d av h1 h2=>?_,fun n o av h1 h2 h3 h4=>?_,fun n o o' av av' h1 h2=>?_,fun k av h1 h2=>?_,fun k av g h1 h2=>?_,fun k k' av av' g h1 h2 h3 h4=>?_,fun k v h1=>(by cases h1),fun b o hd=>hd.elim⟩
  ·obtain ⟨q,hq,rfl,rfl⟩:=kV h1;obtain ⟨v,g1,g2⟩:=vH a w D hv hs q hq;exact ⟨v,g1,n4 (g2.keep fun b o v _ hc=>⟨.inl ⟨World.block_lt_of_cell? w _ hc,trivial,fun h=>h⟩,hc⟩)⟩
  ·have:=kA h1;unfold f0 at this;omega
  ·have:=kA h1;unfold f0 at this;omega
  ·have:=kA h1;have:=h2.1;omega
  ·have:=kA h1;have:=h2.1;omega
  ·have:=kA h1;have:=h3.1;omega
 refine J9 (h w M a w hS) ?_;rintro e a' w' ⟨s',⟨hR,hx⟩,D',kG,g⟩;refine ⟨_,hQ e hR,D,hv,?_⟩;have hB:Below w.heap.size w w':=g.below.below fun k hk=>hk;have h1:=(hs.sub kJ.sub).grow' hB;have gT:∀ {k av},look objs k=some av->100000<=k:=fun {k av} h1=>Nat.le_of_ble_eq_true (hk k (i8 h1));have h2:SimG w0 U0 nt objs a' w' D hv:=⟨h1.below,g.dfr,g.size,fun d av h7 h8=>by have:=gT h7;omega,h1.fld,h1.fdis,h1.obj,h1.blk,h1.disj,h1.fix,h1.dlt⟩
 obtain ⟨v,k1,k2⟩:=g.slot dr _ hx (bL pD);obtain ⟨rfl,k3⟩:=n8.1 k2.1;exact h2.know (bL pD) k1 (p6 k3)
theorem b1p {W:World} {f:FuncId} {x:Value} {c2:CV} {e z nm N:Nat} {l:List CV} (h1:300000<=nm) (h2:nm<450000) (hN:N<=l.length) (h:AFun P W f [.lst (l.take N),c2] (.val (.sc x))):r5 P f [(nm,.mrow e z l)] [.sl nm 0 N z,.val c2] (.val (.sc x)) [(nm,.mrow e z l)]:=by
 refine ⟨h.1,fun U w hv a0 vs hU hp ha=>?_⟩;obtain ⟨u1,us1,rfl,a1,u2,us2,rfl,a2,a4⟩:=ha;have a4:us2=[]:=a4;subst a4;have kN:RN nm:=⟨by omega,by omega⟩
 have kB:look [(nm,AV.mrow e z l)] nm=some (.mrow e z l):=by rw [j8];simp
 have hvw:=hp.view kB kN hN;have a1:RN nm/\SlV (hv nm) 0 N z u1:=a1;obtain ⟨_,ao,m,cap,ao',s1,s2,s3,s4,_⟩:=a1;have e9:u1=M3 (hv nm) N:=by rw [s1,s2,s4 rfl];rfl
 refine (h.2.2.2 (fun _ _=>True) w _ trivial ⟨_,_,rfl,by rw [e9];exact hvw,_,_,rfl,a2.1.mono fun b o _=>trivial,rfl⟩).mono ?_;rintro e' w' ⟨v,rfl,hr,hB⟩;obtain ⟨rfl,h9⟩:=n8.1 hr;exact ⟨_,_,hv,a0,rfl,hp.grow' hB,p6 h9⟩
end
section
open Go.RowKit Go.MapKept
structure On (w0:World) (U0:UX) (w:World) (U:UX):Prop where
 below:BelowX U0.x w0 w
 x:∀ b,U.x b->U0.x b\/w0.heap.size<=b
 m:∀ b o,b<w0.heap.size->U0.m b o->¬ U0.x b->U.m b o
 f:∀ v,U0.f 450001=some v->U.f 450001=some v
theorem On.refl (w:World) (U:UX):On w U w U:=⟨BelowX.refl _ _,fun b h => .inl h,fun b o _ h _=>h,fun v h=>h⟩
theorem On.trans {w0 w1 w2:World} {U0 U1 U2:UX} (h:On w0 U0 w1 U1) (k:On w1 U1 w2 U2):On w0 U0 w2 U2:=by
 have hs:=h.below.size;have gA:∀ b,b<w0.heap.size->¬ U0.x b->¬ U1.x b:=fun b hb hx h1=>by
  rcases h.x b h1 with h2 | h2
  ·exact hx h2
  ·omega
 refine ⟨⟨k.below.os.trans h.below.os,k.below.tape.trans h.below.tape,k.below.output.trans h.below.output,Nat.le_trans hs k.below.size,fun b hb hx=>(k.below.block b (by omega) (gA b hb hx)).trans (h.below.block b hb hx)⟩,fun b hb=>?_,fun b o hb hm hx=>k.m b o (by omega) (h.m b o hb hm hx) (gA b hb hx),fun v hv=>k.f v (h.f v hv)⟩;rcases k.x b hb with h2 | h2
 ·exact h.x b h2
 ·exact .inr (by omega)
section
variable {P:Program} {w0:World} {U0:UX} {nt:Nat} {s:AS} {a:Act} {w:World} {D:Nat->Nat->Prop} {hv:Nat->Value}
theorem SimG.on (h:SimG w0 U0 nt s a w D hv) {pre:AS} (hp:Sub s pre) (hl:pre.all E4=true) {V:UX} (v3:∀ b,V.x b↔∃ k av,look pre k=some av/\l8 k/\hb (hv k)=some b) (v4:∀ k,l7 (kO pre) k=true->400000<=k->k<500000->V.f k=some (hv k)) (v5:∀ b o,V.m b o↔Us w0 U0 D b o) (hk:l7 (kO pre) 450001=true):On w0 U0 w V:=by
 refine ⟨h.below,fun b hb=>?_,fun b o hb hm hx=>(v5 b o).2 (.inl ⟨hb,hm,hx⟩),fun v hf=>?_⟩
 ·obtain ⟨k,av,h1,h2,h3⟩:=(v3 b).1 hb;have h4:=H9 hl h1;unfold l8 at h2;unfold E4 at h4;have h5:Nat.ble 500000 k=false:=by
   cases e:Nat.ble 500000 k with
   | false=>rfl
   | true=>have:=Nat.le_of_ble_eq_true e;omega
  simp only [h5,Bool.and_eq_true,Bool.or_eq_true,Bool.not_eq_true'] at h4;obtain ⟨⟨⟨g1,g2⟩,g3⟩,g4⟩:=h4;obtain ⟨f1,_,_⟩:=h.blk k av b (hp _ _ h1) h2 (fun e=>by rw [e] at g3;cases g3) h3;rcases f1 with f1 | f1
  ·exact .inr f1
  ·exact .inl f1.2
 ·rw [v4 450001 hk (by omega) (by omega),h.fix 450001 v hf]
def a1f (P:Program) (Wb:World) (Ub:UX) (f:FuncId) (pre:AS) (args:List AV) (r:AV) (post:AS):Prop:=
 a2V P f/\∀ (U:UX) (w:World) (hv:Nat->Value) (a0:Act) (vs:List Value),On Wb Ub w U->(∀ k v,U.f k=some v->l7 (kO pre) k=true)->SimG w U 0 pre a0 w (fun _ _=>False) hv->AVReps (Us w U (fun _ _=>False)) w hv (a9 pre) args vs ->
  Calls P f vs.toArray w fun e w'=>∃ v D' kG a',e = .returned v/\SimG w U 0 post a' w' D' kG/\AVRep (Us w U D') w' kG (a9 post) r v
def b7j (P:Program) (Wb:World) (Ub:UX) (l nm:Nat) (pre:AS) (args:Value->List AV) (post:AS):Prop:=
 ∀ (U:UX) (w:World) (hv:Nat->Value) (a0:Act) (vs:List Value),On Wb Ub w U->(∀ k v,U.f k=some v->l7 (kO pre) k=true)->SimG w U 0 pre a0 w (fun _ _=>False) hv->AVReps (Us w U (fun _ _=>False)) w hv (a9 pre) (args (hv nm)) vs ->
  YieldAt Fence.wide 1 P l vs.toArray w fun e w'=>e = .returned (.bool true)/\∃ D' kG a',SimG w U 0 post a' w' D' kG
abbrev F7 (l:Nat):CV := .sc (.func (.yield l) #[] #[])
def c3A (P:Program) (w0:World) (U0:UX) (nt:Nat) (ops:Array Oper) (o:Oper) (s e:AS):Prop:=
 ∀ (M:Md) a w,Sim w0 U0 nt s a w->∀ (Q:Exit->Act->World->Prop) (K:Act->World->Prop),(∀ a' w',Sim w0 U0 nt (e++s) a' w'->K (wdA a' M.ds) w') ->
  if Region.wanted o (yielded ops (wdA a M.ds).tmps)=true then o.wpIn (A8 M.r) 1 P (wdA a M.ds) w K Q else (∀ f,o.about P w (wdA a M.ds).eval=some f->(A8 M.r).fn f)/\K ((wdA a M.ds).put o.dst undef) w
def c0m (P:Program) (w0:World) (U0:UX) (nt:Nat) (ops:Array Oper) (o:Oper) (R:List Nat) (N:List (Nat×List Nat)) (S:Nat->Option AV) (e:AS):Prop:=
 ∀ s,(∀ k∈R,look s k=S k)->(∀ q∈N,NoRefE s q)->c3A P w0 U0 nt ops o s e
def b9D (P:Program) (w0:World) (U0:UX) (nt:Nat) (ops:Array Oper):List Oper->AS->(AS->Prop)->Prop
 | [],s,K=>K s
 | o::os,s,K=>∃ (R:List Nat) (N:List (Nat×List Nat)) (e:AS),c0m P w0 U0 nt ops o R N (look s) e/\y8 s N=true/\b9D P w0 U0 nt ops os (e++s) K
theorem AOp.y {ops:Array Oper} {o:Oper} {R:List Nat} {N:List (Nat×List Nat)} {S:Nat->Option AV} {e:AS} (h:AOp P w0 U0 nt ops o R N S e):c0m P w0 U0 nt ops o R N S e:=fun s h1 h2 M a w hs Q K hK=>a8t (h s h1 h2) hs hK
theorem nxY {ops:Array Oper} {o:Oper} {os:List Oper} {s e:AS} {K:AS->Prop} {R:List Nat} {N:List (Nat×List Nat)} (h1:c0m P w0 U0 nt ops o R N (look s) e) (h2:y8 s N=true) (h3:b9D P w0 U0 nt ops os (e++s) K):b9D P w0 U0 nt ops (o::os) s K:=⟨R,N,e,h1,h2,h3⟩
theorem a6c {ops:Array Oper} {M:Md} {Q:Exit->Act->World->Prop}:∀ {l:List Oper} {s:AS} {K:AS->Prop},b9D P w0 U0 nt ops l s K->(∀ s' a w,K s'->Sim w0 U0 nt s' a w->Q .normal (wdA a M.ds) w)->∀ a w,Sim w0 U0 nt s a w->wpListIn (A8 M.r) 1 P ops Q l (wdA a M.ds) w
 | [],s,K,h,hK,a,w,hs=>hK s a w h hs
 | o::os,s,K,⟨R,N,e,h1,h2,h3⟩,hK,a,w,hs=>by
  unfold wpListIn;exact h1 s (fun _ _=>rfl) (q6 h2) M a w hs _ _ (fun a' w' gD=>a6c h3 hK a' w' gD)
theorem J4 {id:Nat} {l:List Oper} {Q:Exit->AS->Prop} {s:AS} (h:b9D P w0 U0 nt l.toArray l s fun s'=>Q .normal s'):AWp P w0 U0 nt (.region id l.toArray false) Q s:=
 fun M a w hs=>wpIn_region_lit (a6c (M:=M) h (fun s' a w h1 h2=>⟨a,rfl,s',h1,h2⟩) a w hs)
theorem a8X {m m':Nat} {ro:Option Nat} {l:Nat} {f:FuncId} {tmps:Array Value} {assign body:Code} {R:Ending->World->Prop} (h:RoundIn Fence.wide m P l f tmps assign body w R):RoundIn (A8 ro) m' P l f tmps assign body w R:=
 ⟨trivial,fun c cs _=>by obtain ⟨e,w',h1,h2⟩:=h.2 c cs (room_wide _);refine ⟨e,w',h1,?_⟩;cases e<;>exact h2⟩
variable {ops:Array Oper} {o:Oper} {S:Nat->Option AV} {gs:List Nat} {d:Nat}
theorem a1A (dh:Nat) {Wb:World} {Ub:UX} {l nm:Nat} {x:Operand} {xs:Array Operand} {ts:Array TypeId} {ar:Value->List AV} {pre post:AS} {u:Value} {n q p} (hY:b7j P Wb Ub l nm pre ar post) (bG:On Wb Ub w0 U0) (hg:Gd w0 U0 nt ops o gs S) (hd:o.dst=some d) (hn:Nat.blt d nt=true) (h5:Nat.blt d 100000=true)
  (ho:o.op = .call { callee := .value x,args:=xs,argTypes:=ts }) (hf:ev S x=some ⟨0,F7 l,n,q,p⟩) (hx:a4u S xs.toList=some (ar u)) (hh:(S dh=some (.hdl u nm)/\Nat.blt dh 100000=true)\/∀ v v',ar v=ar v') (hp:SubS S pre) (hl:pre.all E4=true) (hq:post.all (G1 (kO post))=true) (jN:(kO pre).all (l7 (kO post))=true) (hnb:∀ k v,U0.f k=some v->l7 (kO post) k=true->l7 (kO pre) k=true) (fI:l7 (kO pre) 450001=true) :
  c0m P w0 U0 nt ops o (gs++(rd x++(rdl xs.toList++(kO pre++[dh])))) (I8 (kO pre) (kO post) (kO post)) S ((d,.val (.b true))::post):=by
 intro s hs hN M a w ⟨D,hv,h⟩ Q K hK;show if Region.wanted o (yielded ops a.tmps)=true then _ else _
 rw [if_pos (hg s (fun k hk=>hs k (mem_append_left _ hk)) a w D hv h)];have nD:=v7 h (fun k hk=>hs k (mem_append_right _ (mem_append_left _ hk))) hf;have hargs:=R0 h (fun k hk=>hs k (mem_append_right _ (mem_append_right _ (mem_append_left _ hk)))) hx;have kJ:Sub s pre:=fun k av h1=>(hs k (mem_append_right _ (mem_append_right _ (mem_append_right _ (mem_append_left _ (i8 h1)))))).trans (hp.look h1);have hu:ar (hv nm)=ar u:=by
  rcases hh with ⟨h1,h2⟩ | h1
  ·obtain ⟨_,_,_,h3⟩:∃ v,a.tmps[dh]?=some v/\RN nm/\hv nm=u:=h.slot dh _ ((hs dh (by simp)).trans h1) (bL h2);rw [h3]
  ·exact h1 _ _
 obtain ⟨V,v1,v2,v3,v4,v5,v6⟩:=h.lend kJ hl;obtain ⟨fn,tm,assign,body,hy,hR⟩:=hY V w hv ⟨#[],[]⟩ _ (bG.trans (h.on kJ hl v3 v4 v5 fI)) v1 v2 (by rw [hu];exact hargs.imp fun c _ v lE=>lE.move v6 (fun _ h3=>h3.imp id fun ⟨e,he⟩=>⟨e,kJ _ _ he.1,he.2⟩) fun _=>rfl);have he:(o.semAt (A8 M.r).round (wdA a M.ds).eval).run P w = .ok (.round l fn tm assign body) w:=by
  rw [Oper.semAt_eq _ _ _ (fun c hc=>by rw [ho] at hc;cases hc),U9];have gR:(xs.toList.map a.eval).toArray=xs.map a.eval:=by apply Array.ext';simp
  rw [gR] at hy;generalize a.eval=ρ at nD hy |-;have nD:ρ x = .func (.yield l) #[] #[]:=nD;simp [execOp,ho,resolve,invoke,Deferred.ofValue,nD,hy]
 refine ⟨fun _ _=>trivial,?_⟩;rw [he,Oper.uponIn_round];refine ⟨(fun hh=>by cases hh),(a8X (ro:=M.r) hR).mono ?_⟩;rintro e w' ⟨rfl,D',kG,a',h6⟩;obtain ⟨D2,gI,h8,h9⟩:=h.back kJ hl hq jN hN hnb v3 v4 v5 v2 h6;have dB:=hK _ _ ⟨D2,gI,h8.put (bL hn) (bL h5) (av := .val (.b true)) (v := .bool true) (p6 rfl)⟩;rw [hd];exact dB
theorem b9v {f:FuncId} {xs:Array Operand} {ts:Array TypeId} {avs:List AV} {r:AV} {pre post:AS} {Wb:World} {Ub:UX} (bG:On Wb Ub w0 U0) (hg:Gd w0 U0 nt ops o gs S) (hd:o.dst=some d) (hn:Nat.blt d nt=true) (h5:Nat.blt d 100000=true)
  (ho:o.op = .call { callee := .value (.func f),args:=xs,argTypes:=ts }) (hx:a4u S xs.toList=some avs) (hc:a1f P Wb Ub f pre avs r post) (hp:SubS S pre) (hl:pre.all E4=true) (hq:post.all (G1 (kO post))=true) (jN:(kO pre).all (l7 (kO post))=true) (hr:a2W (kO post) r=true) (hnb:∀ k v,U0.f k=some v->l7 (kO post) k=true->l7 (kO pre) k=true) (fI:l7 (kO pre) 450001=true) :
  AOp P w0 U0 nt ops o (gs++(rdl xs.toList++kO pre)) (I8 (kO pre) (kO post) (kO post)) S ((d,r)::post):=by
 intro s hs hN a w ⟨D,hv,h⟩ Q K hK;rw [if_pos (hg s (fun k hk=>hs k (mem_append_left _ hk)) a w D hv h)];have hargs:=R0 h (fun k hk=>hs k (mem_append_right _ (mem_append_left _ hk))) hx;have kJ:Sub s pre:=fun k av h1=>(hs k (mem_append_right _ (mem_append_right _ (i8 h1)))).trans (hp.look h1);obtain ⟨V,v1,v2,v3,v4,v5,v6⟩:=h.lend kJ hl;obtain ⟨h1,h2⟩:=hc;have kK:=h2 V w hv ⟨#[],[]⟩ _ (bG.trans (h.on kJ hl v3 v4 v5 fI)) v1 v2 (hargs.imp fun c _ v lE=>lE.move v6 (fun _ h3=>h3.imp id fun ⟨e,he⟩=>⟨e,kJ _ _ he.1,he.2⟩) fun _=>rfl);have he:(execOp a.eval o).run P w = .ok (.enter f (xs.toList.map a.eval).toArray) w:=by
  have hf:a.eval (.func f) = .func (.func f) #[] #[]:=rfl;have cR:=h1 (xs.map a.eval) w;have gR:(xs.toList.map a.eval).toArray=xs.map a.eval:=by apply Array.ext';simp
  rw [gR];generalize a.eval=ρ at hf cR |-;simp [execOp,ho,resolve,invoke,Deferred.ofValue,hf,cR]
 unfold Oper.wp;rw [he,Oper.upon_enter];refine kK.mono ?_;rintro e w' ⟨v,D',kG,a',rfl,h6,h7⟩;rw [hd];obtain ⟨D2,gI,h8,h9⟩:=h.back kJ hl hq jN hN hnb v3 v4 v5 v2 h6;exact hK _ _ ⟨D2,gI,h8.put (bL hn) (bL h5) (h9.1 r v hr h7)⟩
theorem zbK {P:Program} {w0:World} {U0:UX} {nt:Nat} {ops:Array Oper} {o:Oper} {S:Nat->Option AV} {gs:List Nat} {d:Nat} {f:FuncId} {xs:Array Operand} {ts:Array TypeId} {avs:List AV} {r:AV} {pre:AS} {post:AS} {Wb:World} {Ub:UX} (bG:On Wb Ub w0 U0) (p:Gd w0 U0 nt ops o gs S:=by exact gN rfl) (q:o.dst=some d:=by exact rfl) (t:Nat.blt d nt=true:=by exact rfl) (u:Nat.blt d 100000=true:=by exact rfl) (x:o.op = .call { callee := .value (.func f),args:=xs,argTypes:=ts }:=by exact rfl) (y:a4u S xs.toList=some avs:=by exact rfl) (z:a1f P Wb Ub f pre avs r post) (A:SubS S pre:=by repeat (first | exact trivial | refine ⟨rfl,?_⟩)) (B:pre.all E4=true:=by first | rfl | kernel_rfl) (C:post.all (G1 (kO post))=true:=by first | rfl | kernel_rfl) (E:(kO pre).all (l7 (kO post))=true:=by first | rfl | kernel_rfl) (F:a2W (kO post) r=true:=by first | rfl | kernel_rfl) (G:∀ k v,U0.f k=some v->l7 (kO post) k=true->l7 (kO pre) k=true) (H:l7 (kO pre) 450001=true:=by exact rfl):AOp P w0 U0 nt ops o (gs++(rdl xs.toList++kO pre)) (I8 (kO pre) (kO post) (kO post)) S ((d,r)::post):=b9v bG p q t u x y z A B C E F G H
end
section
variable {P:Program} {w0:World} {U0:UX} {nt:Nat} {s:AS}
theorem b4b {f:FuncId} {fn:Func} {c:Code} {pre post:AS} {args:List AV} {r:AV} (hf:P.funcs[f]?=some fn) (hn:fn.ntmps=nt) (hb:fn.body=some c) (hl:Nat.ble args.length nt=true) (cE:Nat.blt nt 100000=true) (gC:(kO pre).all (Nat.ble 100000)=true) (kQ:(kO post).all (Nat.ble 100000)=true) {w:World} {U:UX} (hU:∀ k v,U.f k=some v->l7 (kO pre) k=true)
  (h:AWp P w U nt c (fun e s'=>(e = .normal\/e = .ret)/\b8s P w U nt fn s' r post) (C3 args 0++pre)) {hv:Nat->Value} {a0:Act} {vs:List Value} (gE:SimG w U 0 pre a0 w (fun _ _=>False) hv) (hargs:AVReps (Us w U (fun _ _=>False)) w hv (a9 pre) args vs) :
  Calls P f vs.toArray w fun e w'=>∃ v D' kG a',e = .returned v/\SimG w U 0 post a' w' D' kG/\AVRep (Us w U D') w' kG (a9 post) r v:=by
 have kD:=hargs.len;refine calls_of_wp hf hb ?_;have cY:=Nat.le_of_ble_eq_true hl;have cE:=bL cE;have kV:∀ {k av},look pre k=some av->100000<=k:=fun {k av} h1=>by rw [all_eq_true] at gC;exact Nat.le_of_ble_eq_true (gC k (i8 h1))
 have kB:∀ {k},100000<=k->look (C3 args 0++pre) k=look pre k:=fun {k} h1=>by
  rw [b9];cases h2:look (C3 args 0) k with
  | none=>rfl
  | some av =>
   obtain ⟨_,h3⟩:=w8 h2;rw [Nat.sub_zero,getElem?_eq_none (by omega)] at h3;cases h3
 have kI:a9 (C3 args 0++pre)=a9 pre:=by
  funext n;unfold a9 t7;apply propext;constructor
  ·rintro (h1 | ⟨e,h1,h2,h3⟩)
   ·exact .inl h1
   ·rw [kB (by omega)] at h1;exact .inr ⟨e,h1,h2,h3⟩
  ·rintro (h1 | ⟨e,h1,h2,h3⟩)
   ·exact .inl h1
   ·exact .inr ⟨e,by rw [kB (by omega)];exact h1,h2,h3⟩
 have hs:Sim w U nt (C3 args 0++pre) { tmps:=vs.toArray++Array.replicate (fn.ntmps-vs.toArray.size) undef,defers:=[] } w:=by
  refine ⟨fun _ _=>False,hv,gE.below,rfl,by simp [hn];omega,fun d av h1 h2=>?_,fun n o av h1 h2 h3 h4=>?_,fun n o o' av av' h1 h2=>?_,fun k av h1 h2=>?_,fun k av g h1 h2=>?_,fun k k' av av' g h1 h2 h3 h4=>?_,gE.fix,fun b o hd=>hd.elim⟩
  ·rw [b9] at h1;cases h3:look (C3 args 0) d with
   | none =>
    rw [h3] at h1;have:=kV h1;omega
   | some av' =>
    rw [h3] at h1;cases h1;obtain ⟨_,h4⟩:=w8 h3;rw [Nat.sub_zero] at h4;obtain ⟨v,h6,h7⟩:=hargs.at h4;have hdl:d<vs.length:=by
     rcases Nat.lt_or_ge d vs.length with h | h
     ·exact h
     ·rw [getElem?_eq_none h] at h6;cases h6
    rw [kI];refine ⟨v,?_,h7⟩;rw [Array.getElem?_append_left (by simpa using hdl)];simpa using h6
  ·rw [kB (by unfold f0;omega)] at h1;rw [kB (by omega)] at h3;rw [kI];exact gE.fld n o av h1 h2 h3 h4
  ·rw [kB (by unfold f0;omega)] at h1 h2;exact gE.fdis n o o' av av' h1 h2
  ·rw [kB h2.1] at h1;rw [kI];exact gE.obj k av h1 h2
  ·rw [kB h2.1] at h1;exact gE.blk k av g h1 h2
  ·rw [kB h3.1] at h1;rw [kB h4.1] at h2;exact gE.disj k k' av av' g h1 h2 h3 h4
 refine wp_mono ((h ⟨none,[]⟩ _ w hs).wp rfl (fun e a w ⟨s,_,h⟩=>h.df)) ?_;rintro e a' w' ⟨s',⟨h1,s2,g1,g2,g3⟩,h3⟩;obtain ⟨D',kG,h4⟩:=g1 a' w' h3;obtain ⟨v,h5,h6⟩:=R2 h4 g2;have hS:=h4.sub g3.sub;have gT:∀ {k av},look post k=some av->100000<=k:=fun {k av} h1=>by rw [all_eq_true] at kQ;exact Nat.le_of_ble_eq_true (kQ k (i8 h1))
 have jP:SimG w U 0 post ⟨#[],[]⟩ w' D' kG:=⟨hS.below,rfl,rfl,fun d av h7 h8=>by have:=gT h7;omega,hS.fld,hS.fdis,hS.obj,hS.blk,hS.disj,hS.fix,hS.dlt⟩
 rcases h1 with rfl | rfl
 ·exact ⟨h4.dfr,v,h5,v,D',kG,_,rfl,jP,h6.move (fun _ _ _ h1 h2=>⟨h1,h2⟩) (fun _ h7=>h7.imp id fun ⟨e,he⟩=>⟨e,g3.sub _ _ he.1,he.2⟩) fun _=>rfl⟩
 ·exact ⟨h4.dfr,v,h5,v,D',kG,_,rfl,jP,h6.move (fun _ _ _ h1 h2=>⟨h1,h2⟩) (fun _ h7=>h7.imp id fun ⟨e,he⟩=>⟨e,g3.sub _ _ he.1,he.2⟩) fun _=>rfl⟩
theorem a1q {f : FuncId} {fn : Func} {c : Code} {pre post : AS} {args : List AV} {r : AV} {Wb : World} {Ub : UX} (hf : P.funcs[f]? = some fn) (hn : fn.ntmps = nt) (gL : (fn.name == "runtime.NumGoroutine") = false) (hb : fn.body = some c) (hl : Nat.ble args.length nt = true) (cE : Nat.blt nt 100000 = true) (gC : (kO pre).all (Nat.ble 100000) = true) (kQ : (kO post).all (Nat.ble 100000) = true)
  (h:∀ (w:World) (U:UX),On Wb Ub w U->(∀ k v,U.f k=some v->l7 (kO pre) k=true)->AWp P w U nt c (fun e s'=>(e = .normal\/e = .ret)/\b8s P w U nt fn s' r post) (C3 args 0++pre)):a1f P Wb Ub f pre args r post:=
 ⟨x9 hf gL (by rw [hb];rfl),fun U w hv a0 vs bG hU gE hargs=>b4b hf hn hb hl cE gC kQ hU (h w U bG hU) gE hargs⟩
theorem b4u {f : FuncId} {fn : Func} {c : Code} {pre post : AS} {args : List AV} {r : AV} {Wb : World} {Ub : UX} (hf : P.funcs[f]? = some fn) (hn : fn.ntmps = nt) (gL : (fn.name == "runtime.NumGoroutine") = false) (hb : fn.body = some c) (hl : Nat.ble args.length nt = true) (cE : Nat.blt nt 100000 = true) (gC : (kO pre).all (Nat.ble 100000) = true) (kQ : (kO post).all (Nat.ble 100000) = true)
  (h:∀ (w:World) (U:UX),On Wb Ub w U->(∀ k v,U.f k=some v->l7 (kO pre) k=true)->a1G P w U nt c (fun e s' g=>(e = .normal\/e = .ret)/\∃ s2,Wk w U nt s' ((299999,.ob g 0)::s2)/\b5b P s2 fn.results.toList=some r/\SubL s2 post/\look s2 299999=none) (C3 args 0++pre)):a1f P Wb Ub f pre args r post:=
 ⟨x9 hf gL (by rw [hb];rfl),fun U w hv a0 vs bG hU gE hargs=>a6x hf hn hb hl cE gC kQ (h w U bG hU) gE hargs⟩
def parA:List Tmp->List AV->AS->AS
 | p::ps,c::cs,s=>parA ps cs ((p,c)::s)
 | _,_,s=>s
theorem SlOk.parA {R:AV->Value->Prop}:∀ {ps:List Tmp} {cs:List AV} {vs:List Value} {s:AS} {tm:Array Value},SlOk R s tm->(ps.all fun p=>Nat.blt p tm.size)=true->(∀ (i:Nat) (c:AV),cs[i]?=some c->∃ v,vs[i]?=some v/\R c v)->vs.length=cs.length->SlOk R (parA ps cs s) (a5Y ps vs tm)/\(a5Y ps vs tm).size=tm.size
 | [],cs,vs,s,tm,h,_,_,_=>⟨by cases cs<;>exact h,rfl⟩
 | p::ps,[],vs,s,tm,h,_,hv,hl=>by
  have:vs=[]:=List.eq_nil_of_length_eq_zero hl;subst this;exact ⟨h,rfl⟩
 | p::ps,c::cs,[],s,tm,h,_,_,hl=>by cases hl
 | p::ps,c::cs,u::us,s,tm,h,hl,hv,dE=>by
  rw [all_cons,Bool.and_eq_true] at hl;obtain ⟨v,h1,h2⟩:=hv 0 c rfl;cases h1;have:=SlOk.parA (ps:=ps) (cs:=cs) (vs:=us) (s:=(p,c)::s) (tm:=tm.setIfInBounds p u) (h.set (bL hl.1) h2) (by rw [Array.size_setIfInBounds];exact hl.2) (fun i c hc=>hv (i+1) c hc) (by simpa using dE);exact ⟨this.1,by show (a5Y ps us (tm.setIfInBounds p u)).size=_;rw [this.2,Array.size_setIfInBounds]⟩
theorem a6P:∀ (nt:Nat) (ps:List Tmp) (cs:List AV) (sl:AS),(ps.all fun p=>Nat.blt p nt&&Nat.blt p 100000)=true->(kO sl).all (fun k=>Nat.blt k 100000)=true->(kO (parA ps cs sl)).all (fun k=>Nat.blt k 100000)=true
 | nt,[],cs,sl,_,h=>by cases cs<;>exact h
 | nt,p::ps,[],sl,h1,h2=>h2
 | nt,p::ps,c::cs,sl,h1,h2=>by
  rw [all_cons,Bool.and_eq_true] at h1;have h3:=h1.1;rw [Bool.and_eq_true] at h3;refine a6P nt ps cs ((p,c)::sl) h1.2 ?_;show ((p::kO sl).all _)=true;rw [all_cons,Bool.and_eq_true];exact ⟨h3.2,h2⟩
def SlP:AS->Prop
 | []=>True
 | (_,av)::s=>((∃ c,av = .val c)\/av = .bp 350001 0 [])/\SlP s
theorem SlP.at:∀ {s:AS} {d:Nat} {av:AV},SlP s->look s d=some av->(∃ c,av = .val c)\/av = .bp 350001 0 []
 | [],_,_,_,h=>by simp [look] at h
 | (k,x)::s,d,av,⟨h1,h2⟩,h=>by
  rw [j8] at h;split at h
  ·cases h;exact h1
  ·exact h2.at h
def c2b (nt X:Nat) (f:Value->AS):Prop:=(∀ v,f v=[])\/∃ d,(∀ v,f v=[(d,.hdl v X)])/\d<nt/\d<100000/\RN X
theorem a6a {ps:List Tmp} {assign body:Code} {sl pre post:AS} {L X:Nat} {args:Value->List AV} {hdl:Value->AS} {fn:FuncId} {df:Nat} {tm:Array Value} {W1:World} {V:UX} {hv0:Nat->Value}
  (hfn2:(Fence.wide).fn fn) (vI:On w0 U0 W1 V) (hL0:w0.heap.size<=L)
  (gX:W1.heap[L]?=some (.loop (o8 fn tm ps.toArray assign body df .ready))) (pA:¬ V.x L)
  (lV:tm.size=nt) (bE:(ps.all fun p=>Nat.blt p nt&&Nat.blt p 100000)=true) (fJ:∀ v,(args v).length=ps.length) (cQ:(kO sl).all (fun k=>Nat.blt k 100000)=true)
  (dH:∀ d av,look sl d=some av->∃ v,tm[d]?=some v/\((∃ c,av = .val c/\VRep (Us W1 V (fun _ _=>False)) W1 c v)\/(av = .bp 350001 0 []/\v = .pointer (some ⟨p7 (hv0 450001),0,none⟩)))) (hvf:V.f 450001=some (hv0 450001))
  (gC:(kO pre).all (Nat.ble 100000)=true) (kQ:(kO post).all (Nat.ble 100000)=true) (tP:c2b nt X hdl)
  (cM:∀ (v:Value) (w:World) (U:UX),(∀ k v,U.f k=some v->l7 (kO pre) k=true)->On w0 U0 w U->AWp P w U nt assign (fun e s1=>e = .normal/\∀ w',On w0 U0 w' U->a5y P w' U nt body (fun e s'=>e = .normal/\Wk w' U nt s' post) s1) (parA ps (args v) (hdl v++sl)++pre)) :
  b7j P W1 V L X pre args post:=by
 intro U w hv a0 vs bG hU hS hargs;have kA:L<W1.heap.size:=(Array.getElem?_eq_some_iff.1 gX).1;have vJ:w.heap[L]?=some (.loop (o8 fn tm ps.toArray assign body df .ready)):=(bG.below.block L kA pA).trans gX;have oF:L<w.heap.size:=(Array.getElem?_eq_some_iff.1 vJ).1;have vK:¬ U.x L:=fun h=>by
  rcases bG.x L h with h | h
  ·exact pA h
  ·omega
 have qV:∀ (r:Loop) xs ty fl,Obj.loop r ≠ .cells xs ty fl:=fun r xs ty fl e=>by cases e
 have kD:vs.length=ps.length:=hargs.len.trans (fJ _);have hy:=run_yield (P:=P) (args:=vs.toArray) vJ (by show vs.toArray.size=ps.toArray.size;simp [kD]);have hk:∀ b o u,Us W1 V (fun _ _=>False) b o->W1.cell? ⟨b,o,none⟩=some u->Us w U (fun _ _=>False) b o/\w.cell? ⟨b,o,none⟩=some u:=fun b o u hu hc=>by
  rcases hu with ⟨g1,g2,g3⟩ | ⟨_,g⟩
  ·refine ⟨.inl ⟨Nat.lt_of_lt_of_le g1 bG.below.size,bG.m b o g1 g2 g3,fun h=>?_⟩,?_⟩
   ·rcases bG.x b h with h | h
    ·exact g3 h
    ·omega
   ·rw [World.cell?_of_block (w:=W1) (bG.below.block b g1 g3)];exact hc
  ·exact g.elim
 have sH:SlOk (fun av v=>AVRep (Us w U (fun _ _=>False)) w hv (a9 pre) av v) (hdl (hv X)++sl) tm:=fun d av h1=>by
  have vL:∀ d av,look sl d=some av->∃ v,tm[d]?=some v/\AVRep (Us w U (fun _ _=>False)) w hv (a9 pre) av v:=fun d av h1=>by
   obtain ⟨v,h3,h4⟩:=dH d av h1;refine ⟨v,h3,?_⟩;rcases h4 with ⟨c,rfl,h4⟩ | ⟨rfl,rfl⟩
   ·exact n4 (h4.keep hk)
   ·have e:=hS.fix 450001 _ (bG.f _ hvf);show BN 350001/\_=Value.pointer (some ⟨p7 (hv 450001),0,none⟩);rw [e];exact ⟨.inr ⟨by omega,by omega⟩,rfl⟩
  rcases tP with h2 | ⟨dd,h2,h3,h4,h5⟩
  ·rw [h2] at h1;exact vL d av h1
  ·rw [h2] at h1;have h1:look ((dd,AV.hdl (hv X) X)::sl) d=some av:=h1;by_cases e:dd=d
   ·subst e;rw [lS] at h1;injection h1 with h1;subst h1;exact ⟨_,Array.getElem?_eq_getElem (by omega),h5,rfl⟩
   ·rw [lN e] at h1;exact vL d av h1
 have gU:(kO (hdl (hv X)++sl)).all (fun k=>Nat.blt k 100000)=true:=by
  rcases tP with h2 | ⟨dd,h2,h3,h4,h5⟩
  ·rw [h2];exact cQ
  ·rw [h2];show ((dd::kO sl).all _)=true;rw [all_cons,cQ,Bool.and_true];exact Nat.ble_eq_true_of_le (by omega)
 have mA:=sH.parA (ps:=ps) (cs:=args (hv X)) (vs:=vs) (by
  rw [all_eq_true] at bE |-;intro p hp;have:=bE p hp;rw [Bool.and_eq_true] at this;rw [lV];exact this.1) (fun i c hc=>hargs.at hc) hargs.len
 have hF:=(hS.bare (post:=pre) (fun _ _ h=>h) gC).frame (nt:=nt) gC (a6P nt ps _ _ bE gU) (tmps:=a5Y ps vs tm) (by rw [mA.2];exact lV) mA.1;have eL:=vI.trans bG;refine ⟨fn,_,assign,body,hy,roundIn_of_wpIn hfn2 ?_⟩;have uX:(ps.toArray.zip vs.toArray).foldl (fun t (p,v)=>t.setIfInBounds p v) tm=a5Y ps vs tm:=b2f ps vs tm;show assign.wpIn _ _ _ _ ⟨(ps.toArray.zip vs.toArray).foldl (fun t (p,v)=>t.setIfInBounds p v) tm,[]⟩ w;rw [uX];refine wpIn_mono (cM (hv X) w U hU eL ⟨some L,[]⟩ _ w ⟨_,hv,hF⟩) ?_;rintro e a' W' ⟨a'',rfl,s1,⟨rfl,bP⟩,D1,gB,h1⟩;have iM:W'.heap[L]?=some (.loop (o8 fn tm ps.toArray assign body df .ready)):=(h1.below.block L oF vK).trans vJ;refine ⟨_,run_beginRound iM rfl,?_⟩;have h2:=h1.rebase vJ vK (qV _) (.loop (o8 fn tm ps.toArray assign body df .busy));have mC:On w0 U0 (w.putObj L (.loop (o8 fn tm ps.toArray assign body df .busy))) U:=⟨⟨eL.below.os,eL.below.tape,eL.below.output,by rw [World.putObj_size];exact eL.below.size,fun k hk hx=>(World.putObj_heap_other (by omega)).trans (eL.below.block k hk hx)⟩,eL.x,eL.m,eL.f⟩
 refine wpIn_mono (bP _ mC ⟨some L,[]⟩ a'' _ L _ rfl (World.putObj_heap_same oF) vK ⟨_,_,h2⟩) ?_;rintro e a3 W3 ⟨a4,rfl,s2,⟨rfl,hw⟩,nN⟩;obtain ⟨D3,mO,h3⟩:=hw a4 W3 nN;have h4:=h3.bare (post:=post) (fun _ _ h=>h) kQ;have e3:W3.heap[L]?=some (.loop (o8 fn tm ps.toArray assign body df .busy)):=(h4.below.block L (by rw [World.putObj_size];exact oF) vK).trans (World.putObj_heap_same oF);have hr:=run_endRound (P:=P) none e3;have h5:=h4.rebase (l:=L) (y := .loop (o8 fn tm ps.toArray assign body df .busy)) (World.putObj_heap_same oF) vK (qV _) (.loop (o8 fn tm ps.toArray assign body df .ready));rw [a8A vJ] at h5;exact ⟨_,_,hr,rfl,D3,mO,_,h5⟩
theorem b3z {g:Operand} {ps:Array Tmp} {assign body:Code} {Q:Exit->Act->World->Prop} {a:Act} {w:World} {gf:Nat} {lb:Array Value}
  (hg:a.eval g = .func (.func gf) #[] lb) (eg:∀ args w,(callFunc gf args).run P w = .ok (.enter gf args) w)
  (kK:∀ fn,Fence.wide.fn fn->∀ W1,W1=(w.alloc (.deferred (some []))).alloc (.loop (o8 fn a.tmps ps assign body w.heap.size .ready))->CallsIn Fence.wide 2 P gf (#[.func (.yield (w.heap.size+1)) #[] #[]]++lb) W1 (fun e V=>(∃ v,e = .returned v)/\V.heap[w.heap.size+1]?=some (.loop (o8 fn a.tmps ps assign body w.heap.size .ready))/\∀ r:Loop,Q .normal { a with defers:={ target := .collected w.heap.size,args := #[] }::a.defers } (V.putObj (w.heap.size+1) (.loop r)))) :
  (Code.rangeFunc g ps assign body).wpIn Fence.wide 3 P Q a w:=by
 refine wpIn_rangeFunc fun fn dM=>?_;obtain ⟨W1,gX⟩:∃ W1,W1=(w.alloc (.deferred (some []))).alloc (.loop (o8 fn a.tmps ps assign body w.heap.size .ready)):=⟨_,rfl⟩
 refine ⟨w.heap.size+1,[{ target := .collected w.heap.size,args := #[] }],W1,{ target := .fn (.func gf) lb,args := #[.func (.yield (w.heap.size+1)) #[] #[]] },W1,gf,#[.func (.yield (w.heap.size+1)) #[] #[]]++lb,W1,?_,?_,fun _ _=>trivial,?_,(fun _=>by omega),?_⟩
 ·rw [gX];exact run_enterLoop_outer _ _ _ _ _
 ·simp only [resolve,hg];simp [go_sem]
 ·simp [invoke,go_sem,eg]
 refine (kK fn dM _ gX).mono ?_;rintro e V ⟨⟨v,rfl⟩,h2,h3⟩;exact ⟨none,_,run_endLoop (P:=P) h2 (by simp [o8]),h3 _⟩
theorem b1g {g:Operand} {ps:Array Tmp} {assign body:Code} {Q:Exit->Act->World->Prop} {a:Act} {w:World} {gf:Nat} {lb:Array Value} {l₀:Nat} {r₀:Loop} (hl₀:w.heap[l₀]?=some (.loop r₀))
  (hg:a.eval g = .func (.func gf) #[] lb) (eg:∀ args w,(callFunc gf args).run P w = .ok (.enter gf args) w)
  (kK:∀ fn,Fence.wide.fn fn->∀ W1,W1=w.alloc (.loop (o8 fn a.tmps ps assign body r₀.defers .ready))->CallsIn Fence.wide 2 P gf (#[.func (.yield w.heap.size) #[] #[]]++lb) W1 (fun e V=>(∃ v,e = .returned v)/\V.heap[w.heap.size]?=some (.loop (o8 fn a.tmps ps assign body r₀.defers .ready))/\∀ r:Loop,Q .normal a (V.putObj w.heap.size (.loop r)))) :
  (Code.rangeFunc g ps assign body).wpIn (A8 (some l₀)) 3 P Q a w:=by
 refine wpIn_rangeFunc fun fn dM=>?_;obtain ⟨W1,gX⟩:∃ W1,W1=w.alloc (.loop (o8 fn a.tmps ps assign body r₀.defers .ready)):=⟨_,rfl⟩
 refine ⟨w.heap.size,[],W1,{ target := .fn (.func gf) lb,args := #[.func (.yield w.heap.size) #[] #[]] },W1,gf,#[.func (.yield w.heap.size) #[] #[]]++lb,W1,?_,?_,fun _ _=>trivial,?_,(fun _=>by omega),?_⟩
 ·rw [gX];exact run_enterLoop_inner hl₀ _ _ _ _ _
 ·simp only [resolve,hg];simp [go_sem]
 ·simp [invoke,go_sem,eg]
 show CallsIn Fence.wide 2 P gf _ _ _;refine (kK fn dM _ gX).mono ?_;rintro e V ⟨⟨v,rfl⟩,h2,h3⟩;exact ⟨none,_,run_endLoop (P:=P) h2 (by simp [o8]),h3 _⟩
theorem Z1 {U:Nat->Nat->Prop} {w:World} {hv:Nat->Value} {s:AS}:∀ (cs:List CV) (vs:List Value),VReps U w cs vs->AVReps U w hv (a9 s) (cs.map AV.val) vs
 | [],vs,h=>h
 | a::cs,vs,⟨u,us,e,h1,h2⟩=>⟨u,us,e,n4 h1,Z1 cs us h2⟩
structure b7m {α:Type} (xs:List α) (ob:Nat->AS):Prop where
 lend:(ob 0).all E4=true
 leave:(ob xs.length).all (G1 (kO (ob xs.length)))=true
 keys:∀ k,kO (ob k)=kO (ob 0)
 big:((kO (ob 0)).all fun k=>Nat.ble 300000 k)=true
 box:l7 (kO (ob 0)) 450001=true
 nm:((I8 (kO (ob 0)) (kO (ob 0)) (kO (ob 0))).all fun q=>!Nat.beq q.1 0&&(!Nat.beq q.1 100000&&!Nat.beq q.1 1100000))=true
def a0V {α:Type} (P:Program) (gf:Nat) (caps:List CV) (Xs:List Nat) (ld:Nat->α->AS) (args:Nat->α->Value->List AV) (xs:List α) (ob:Nat->AS):Prop:=
 ∀ (Wb:World) (Ub:UX) (l:Nat),(∀ k x,xs[k]?=some x->∀ X∈Xs,b7j P Wb Ub l X (ob k++ld X x) (args X x) (ob (k+1)++ld X x))->a1f P Wb Ub gf (ob 0) (.val (F7 l)::caps.map AV.val) (.tup []) (ob xs.length)
theorem a2h {α:Type} {g:Operand} {ps:List Tmp} {assign body:Code} {gf:Nat} {caps:List CV} {Xs:List Nat} {ld:Nat->α->AS} {args:Nat->α->Value->List AV} {xs:List α} {n1 q1 p1} (ob:Nat->AS) (sl:AS) (hdl:Nat->Value->AS)
  (iB:ev (look s) g=some ⟨0,.fn gf 0 caps,n1,q1,p1⟩) (oA:a2V P gf) (hG:a0V P gf caps Xs ld args xs ob)
  (bE:(ps.all fun p=>Nat.blt p nt&&Nat.blt p 100000)=true) (fJ:∀ X x v,(args X x v).length=ps.length)
  (dH:SubL s sl) (cQ:(kO sl).all (fun k=>Nat.blt k 100000)=true) (sI:SlP sl) (oB:SubL s (ob 0)) (bF:b7m xs ob)
  (vM:∀ k,∀ X∈Xs,∀ x,((kO (ob k++ld X x)).all (Nat.ble 100000))=true) (tP:∀ X∈Xs,c2b nt X (hdl X))
  (jJ:y8 s ((299999,[])::(299998,[])::I8 (kO (ob 0)) (kO (ob 0)) (kO (ob 0)))=true)
  (cM:∀ k x,xs[k]?=some x->∀ X∈Xs,∀ (v:Value) (w:World) (U:UX),(∀ k' v,U.f k'=some v->l7 (kO (ob k++ld X x)) k'=true)->On w0 U0 w U->AWp P w U nt assign (fun e s1=>e = .normal/\∀ w',On w0 U0 w' U->a5y P w' U nt body (fun e s'=>e = .normal/\Wk w' U nt s' (ob (k+1)++ld X x)) s1) (parA ps (args X x v) (hdl X v++sl)++(ob k++ld X x))) :
  a1G P w0 U0 nt (.rangeFunc g ps.toArray assign body) (fun e s' m=>e = .normal/\s'=ob xs.length++((299998,.ob (m+1) 1)::(299999,.ob m 0)::s)) s:=by
 rintro a w ⟨D0,hv0,h⟩;obtain ⟨ys,lb,e1,e2,e3,e4⟩:=T9.1 (y7 h (fun k _=>rfl) iB);have eX:ys=[]:=List.eq_nil_of_length_eq_zero e2;subst eX;have eJ:VReps (Us w0 U0 D0) w caps lb:=R8 e4 (by simpa using e3);have oZ:=q6 jJ;have eK:∀ {k av k'},look (ob k) k'=some av->300000<=k':=fun {k av k'} h1=>by have:=i8 h1;rw [bF.keys k] at this;exact Nat.le_of_ble_eq_true (all_eq_true.1 bF.big k' this)
 refine b7g (b3z (gf:=gf) (lb:=lb.toArray) (by rw [e1]) oA fun fn dM W1 gX=>?_);obtain ⟨L,hL⟩:∃ L,L=w.heap.size+1:=⟨_,rfl⟩
 rw [<-hL];have below1:Below w.heap.size w W1:=by rw [gX];exact ((Below.refl _ w).alloc (Nat.le_refl _) _).alloc (by simp) _
 have atL:W1.heap[L]?=some (.loop (o8 fn a.tmps ps.toArray assign body w.heap.size .ready)):=by have:=World.alloc_heap_new (w.alloc (.deferred (some []))) (.loop (o8 fn a.tmps ps.toArray assign body w.heap.size .ready));rw [World.size_alloc,<-hL,<-gX] at this;exact this
 have nI:L<W1.heap.size:=(Array.getElem?_eq_some_iff.1 atL).1;obtain ⟨lp,cG⟩:∃ lp:AS,lp=(299998,AV.ob L 1)::(299999,AV.ob w.heap.size 0)::s:=⟨_,rfl⟩
 obtain ⟨mD,hS⟩:∃ mD,SimG w0 U0 nt lp a W1 D0 mD:=by
  have h1:=h.newob (n:=299999) (o:=0) (by unfold RW;omega) (oZ (299999,[]) (by simp)).nr (x := .deferred (some [])) (fun _ _ _ e=>by cases e) (fun _=>rfl);have sG:S3 ((299999,AV.ob w.heap.size 0)::s) 299998:=fun k av hk=>by
   rw [j8] at hk;split at hk
   ·rename_i e;subst e;cases hk;exact ⟨by show (0:Nat)≠299998;decide,by decide,by decide⟩
   ·exact (oZ (299998,[]) (by simp)).nr k av hk
  have h2:=h1.newob (n:=299998) (o:=1) (by unfold RW;omega) sG (x := .loop (o8 fn a.tmps ps.toArray assign body w.heap.size .ready)) (fun _ _ _ e=>by cases e) (fun e=>by cases e);rw [show (w.alloc (.deferred (some []))).heap.size=L by rw [hL];simp,<-cG,<-gX] at h2;exact ⟨_,h2⟩
 have fW:∀ {k k':Nat},k'<300000->look (ob k++lp) k'=look lp k':=fun {k k'} h1=>by
  rw [b9];cases e:look (ob k) k' with
  | none=>rfl
  | some av=>have:=eK e;omega
 have mP:look lp 299998=some (.ob L 1):=by rw [cG,lS]
 have hDl:look lp 299999=some (.ob w.heap.size 0):=by rw [cG,lN (by omega),lS]
 have kJ:Sub lp (ob 0):=fun k av h1=>by have h3:=eK h1;rw [cG,lN (by omega),lN (by omega)];exact oB.sub k av h1
 have hS':SimG w0 U0 nt (ob 0++lp) a W1 D0 mD:=hS.congr fun k=>by
  rw [b9];cases e:look (ob 0) k with
  | none=>rfl
  | some av=>exact (kJ k av e).symm
 obtain ⟨V,v1,v2,v3,v4,v5,v6⟩:=hS.lend kJ bF.lend;have vI:=hS.on kJ bF.lend v3 v4 v5 bF.box;have pA:¬ V.x L:=b7r hS' bF.lend bF.big v3 (.inl rfl) (by rw [fW (by omega)];exact mP);have kK:=hG W1 V L (fun k x hx X hX=>a6a (hv0:=mD) dM vI (by rw [hL];have:=h.below.size;omega) atL pA hS.size bE (fJ X x) cQ (fun d av h1=>by
   have mM:d<100000:=by rw [all_eq_true] at cQ;exact bL (cQ d (i8 h1))
   obtain ⟨v,g1,g2⟩:=hS.slot d av (by rw [cG,lN (by omega),lN (by omega)];exact dH.sub d av h1) mM;refine ⟨v,g1,?_⟩;rcases sI.at h1 with ⟨c,rfl⟩ | rfl
   ·exact .inl ⟨c,rfl,g2.1.keep v6⟩
   ·exact .inr ⟨rfl,g2.2⟩) (v4 450001 bF.box (by omega) (by omega)) (vM k X hX x) (vM (k+1) X hX x) (tP X hX) (cM k x hx X hX))
 have hargs:AVReps (Us W1 V (fun _ _=>False)) W1 mD (a9 (ob 0)) (.val (F7 L)::caps.map AV.val) (.func (.yield L) #[] #[]::lb):=
  ⟨_,_,rfl,p6 rfl,Z1 _ _ (eJ.keep fun b o u hu hc=>by have hb:b<w.heap.size:=World.block_lt_of_cell? w _ hc;refine v6 b o u hu ?_;rw [World.cell?_of_block (w:=w) (below1.block b hb)];exact hc)⟩
 have gR : #[Value.func (.yield L) #[] #[]]++lb.toArray=(Value.func (.yield L) #[] #[]::lb).toArray:=by simp
 rw [gR];refine (callsIn_wide.2 (kK.2 V W1 mD ⟨#[],[]⟩ _ (On.refl _ _) v1 v2 hargs)).mono ?_;rintro e V2 ⟨v,D',kG,a',rfl,g1,g2⟩;have hLV:V2.heap[L]?=some (.loop (o8 fn a.tmps ps.toArray assign body w.heap.size .ready)):=(g1.below.block L nI pA).trans atL;refine ⟨⟨v,rfl⟩,hLV,fun r=>?_⟩;obtain ⟨D2,gI,b1,_,_⟩:=hS.back kJ bF.lend bF.leave (by rw [bF.keys xs.length,all_eq_true];intro q hq;exact s8 hq) (fun q hq=>by
  rw [bF.keys xs.length] at hq;have fH:=oZ q (by simp only [List.mem_cons];exact .inr (.inr hq));have fS:=all_eq_true.1 bF.nm q hq;simp only [Bool.and_eq_true,Bool.not_eq_true'] at fS;obtain ⟨g1,g2,g3⟩:=fS;have n1:q.1≠0:=fun e=>by rw [e] at g1;cases g1
  have n2:100000≠q.1:=fun e=>by rw [<-e] at g2;cases g2
  have n3:100000+1000000≠q.1:=fun e=>by rw [<-e] at g3;cases g3
  intro kk av gF nC;rw [cG,j8] at gF;split at gF
  ·rename_i e2;injection gF with gF;rw [<-e2,<-gF];exact ⟨fun e=>n1 e.symm,n2,n3⟩
  ·rw [j8] at gF;split at gF
   ·rename_i e2;injection gF with gF;rw [<-e2,<-gF];exact ⟨fun e=>n1 e.symm,n2,n3⟩
   ·exact fH kk av gF nC) (fun k v h1 h2=>by rw [bF.keys xs.length] at h2;exact h2) v3 v4 v5 v2 g1
 obtain ⟨h9,_⟩:=b1.putob (n:=299998) (o:=1) (o':=1) (by unfold RW;omega) (by rw [fW (by omega)];exact mP) (x := .loop r) (fun _ _ _ e=>by cases e) (fun e=>by cases e);have dB:SimG w0 U0 nt (ob xs.length++lp) a (V2.putObj L (.loop r)) D2 gI:=h9.congr fun k=>by
  rw [j8];split
  ·rename_i e;subst e;rw [fW (by omega)];exact mP
  ·rfl
 refine ⟨_,a,w.heap.size,⟨rfl,rfl⟩,⟨D2,gI,by rw [cG,hL] at dB;rw [hL];exact dB⟩,by show _=wdA a _;unfold wdA;rw [h.dfr],?_⟩;have:=fW (k:=xs.length) (k':=299999) (by omega);rw [hDl,cG,hL] at this;exact this
theorem a2m {α:Type} {g:Operand} {ps:List Tmp} {assign body:Code} {gf:Nat} {caps:List CV} {Xs:List Nat} {ld:Nat->α->AS} {args:Nat->α->Value->List AV} {xs:List α} {n1 q1 p1} (ob:Nat->AS) (sl:AS) (hdl:Nat->Value->AS)
  (iB:ev (look s) g=some ⟨0,.fn gf 0 caps,n1,q1,p1⟩) (oA:a2V P gf) (hG:a0V P gf caps Xs ld args xs ob)
  (bE:(ps.all fun p=>Nat.blt p nt&&Nat.blt p 100000)=true) (fJ:∀ X x v,(args X x v).length=ps.length)
  (dH:SubL s sl) (cQ:(kO sl).all (fun k=>Nat.blt k 100000)=true) (sI:SlP sl) (oB:SubL s (ob 0)) (bF:b7m xs ob)
  (vM:∀ k,∀ X∈Xs,∀ x,((kO (ob k++ld X x)).all (Nat.ble 100000))=true) (tP:∀ X∈Xs,c2b nt X (hdl X))
  (jJ:y8 s ((299998,[])::I8 (kO (ob 0)) (kO (ob 0)) (kO (ob 0)))=true)
  (cM:∀ k x,xs[k]?=some x->∀ X∈Xs,∀ (v:Value) (w:World) (U:UX),(∀ k' v,U.f k'=some v->l7 (kO (ob k++ld X x)) k'=true)->On w0 U0 w U->AWp P w U nt assign (fun e s1=>e = .normal/\∀ w',On w0 U0 w' U->a5y P w' U nt body (fun e s'=>e = .normal/\Wk w' U nt s' (ob (k+1)++ld X x)) s1) (parA ps (args X x v) (hdl X v++sl)++(ob k++ld X x))) :
  a5y P w0 U0 nt (.rangeFunc g ps.toArray assign body) (fun e s'=>e = .normal/\∃ m,s'=ob xs.length++((299998,.ob m 1)::s)) s:=by
 rintro M a w l₀ r₀ hMr hl₀ iX ⟨D0,hv0,h⟩;have eT:w.heap[l₀]?=some (.loop r₀):=(h.below.block l₀ (Array.getElem?_eq_some_iff.1 hl₀).1 iX).trans hl₀;obtain ⟨ys,lb,e1,e2,e3,e4⟩:=T9.1 (y7 h (fun k _=>rfl) iB);have eX:ys=[]:=List.eq_nil_of_length_eq_zero e2;subst eX;have eJ:VReps (Us w0 U0 D0) w caps lb:=R8 e4 (by simpa using e3);have oZ:=q6 jJ;have eK:∀ {k av k'},look (ob k) k'=some av->300000<=k':=fun {k av k'} h1=>by have:=i8 h1;rw [bF.keys k] at this;exact Nat.le_of_ble_eq_true (all_eq_true.1 bF.big k' this)
 obtain ⟨L,hL⟩:∃ L,L=w.heap.size:=⟨_,rfl⟩
 have mE:(Code.rangeFunc g ps.toArray assign body).wpIn (A8 (some l₀)) 3 P (a8w M fun e a' w'=>∃ s',(e = .normal/\∃ m,s'=ob xs.length++((299998,.ob m 1)::s))/\Sim w0 U0 nt s' a' w') (wdA a M.ds) w:=by
  refine b1g (gf:=gf) (lb:=lb.toArray) eT (by rw [U9,e1]) oA fun fn dM W1 gX=>?_;rw [<-hL];have below1:Below w.heap.size w W1:=by rw [gX];exact (Below.refl _ w).alloc (Nat.le_refl _) _
  have atL:W1.heap[L]?=some (.loop (o8 fn a.tmps ps.toArray assign body r₀.defers .ready)):=by have:=World.alloc_heap_new w (.loop (o8 fn a.tmps ps.toArray assign body r₀.defers .ready));rw [<-hL] at this;rw [gX];exact this
  have nI:L<W1.heap.size:=(Array.getElem?_eq_some_iff.1 atL).1;obtain ⟨lp,cG⟩:∃ lp:AS,lp=(299998,AV.ob L 1)::s:=⟨_,rfl⟩
  obtain ⟨mD,hS⟩:∃ mD,SimG w0 U0 nt lp a W1 D0 mD:=by have h2:=h.newob (n:=299998) (o:=1) (by unfold RW;omega) (oZ (299998,[]) (by simp)).nr (x := .loop (o8 fn a.tmps ps.toArray assign body r₀.defers .ready)) (fun _ _ _ e=>by cases e) (fun e=>by cases e);rw [<-hL,<-cG] at h2;rw [gX];exact ⟨_,h2⟩
  have fW:∀ {k k':Nat},k'<300000->look (ob k++lp) k'=look lp k':=fun {k k'} h1=>by
   rw [b9];cases e:look (ob k) k' with
   | none=>rfl
   | some av=>have:=eK e;omega
  have mP:look lp 299998=some (.ob L 1):=by rw [cG,lS]
  have kJ:Sub lp (ob 0):=fun k av h1=>by have h3:=eK h1;rw [cG,lN (by omega)];exact oB.sub k av h1
  have hS':SimG w0 U0 nt (ob 0++lp) a W1 D0 mD:=hS.congr fun k=>by
   rw [b9];cases e:look (ob 0) k with
   | none=>rfl
   | some av=>exact (kJ k av e).symm
  obtain ⟨V,v1,v2,v3,v4,v5,v6⟩:=hS.lend kJ bF.lend;have vI:=hS.on kJ bF.lend v3 v4 v5 bF.box;have pA:¬ V.x L:=b7r hS' bF.lend bF.big v3 (.inl rfl) (by rw [fW (by omega)];exact mP);have kK:=hG W1 V L (fun k x hx X hX=>a6a (hv0:=mD) dM vI (by rw [hL];have:=h.below.size;omega) atL pA hS.size bE (fJ X x) cQ (fun d av h1=>by
    have mM:d<100000:=by rw [all_eq_true] at cQ;exact bL (cQ d (i8 h1))
    obtain ⟨v,g1,g2⟩:=hS.slot d av (by rw [cG,lN (by omega)];exact dH.sub d av h1) mM;refine ⟨v,g1,?_⟩;rcases sI.at h1 with ⟨c,rfl⟩ | rfl
    ·exact .inl ⟨c,rfl,g2.1.keep v6⟩
    ·exact .inr ⟨rfl,g2.2⟩) (v4 450001 bF.box (by omega) (by omega)) (vM k X hX x) (vM (k+1) X hX x) (tP X hX) (cM k x hx X hX))
  have hargs:AVReps (Us W1 V (fun _ _=>False)) W1 mD (a9 (ob 0)) (.val (F7 L)::caps.map AV.val) (.func (.yield L) #[] #[]::lb):=
   ⟨_,_,rfl,p6 rfl,Z1 _ _ (eJ.keep fun b o u hu hc=>by have hb:b<w.heap.size:=World.block_lt_of_cell? w _ hc;refine v6 b o u hu ?_;rw [World.cell?_of_block (w:=w) (below1.block b hb)];exact hc)⟩
  have gR : #[Value.func (.yield L) #[] #[]]++lb.toArray=(Value.func (.yield L) #[] #[]::lb).toArray:=by simp
  rw [gR];refine (callsIn_wide.2 (kK.2 V W1 mD ⟨#[],[]⟩ _ (On.refl _ _) v1 v2 hargs)).mono ?_;rintro e V2 ⟨v,D',kG,a',rfl,g1,g2⟩;have hLV:V2.heap[L]?=some (.loop (o8 fn a.tmps ps.toArray assign body r₀.defers .ready)):=(g1.below.block L nI pA).trans atL;refine ⟨⟨v,rfl⟩,hLV,fun r=>?_⟩;obtain ⟨D2,gI,b1,_,_⟩:=hS.back kJ bF.lend bF.leave (by rw [bF.keys xs.length,all_eq_true];intro q hq;exact s8 hq) (fun q hq=>by
   rw [bF.keys xs.length] at hq;have fH:=oZ q (by simp only [List.mem_cons];exact .inr hq);have fS:=all_eq_true.1 bF.nm q hq;simp only [Bool.and_eq_true,Bool.not_eq_true'] at fS;obtain ⟨g1,g2,g3⟩:=fS;have n1:q.1≠0:=fun e=>by rw [e] at g1;cases g1
   have n2:100000≠q.1:=fun e=>by rw [<-e] at g2;cases g2
   have n3:100000+1000000≠q.1:=fun e=>by rw [<-e] at g3;cases g3
   intro kk av gF nC;rw [cG,j8] at gF;split at gF
   ·rename_i e2;injection gF with gF;rw [<-e2,<-gF];exact ⟨fun e=>n1 e.symm,n2,n3⟩
   ·exact fH kk av gF nC) (fun k v h1 h2=>by rw [bF.keys xs.length] at h2;exact h2) v3 v4 v5 v2 g1
  obtain ⟨h9,_⟩:=b1.putob (n:=299998) (o:=1) (o':=1) (by unfold RW;omega) (by rw [fW (by omega)];exact mP) (x := .loop r) (fun _ _ _ e=>by cases e) (fun e=>by cases e);have dB:SimG w0 U0 nt (ob xs.length++lp) a (V2.putObj L (.loop r)) D2 gI:=h9.congr fun k=>by
   rw [j8];split
   ·rename_i e;subst e;rw [fW (by omega)];exact mP
   ·rfl
  exact ⟨a,rfl,_,⟨rfl,L,rfl⟩,⟨D2,gI,by rw [cG] at dB;exact dB⟩⟩
 unfold WP;rw [hMr];exact fun b k cs h1 h2 _=>mE b k cs h1 h2 (room_wide _)
end
section
variable {P:Program}
theorem b4l (X e z:Nat) {Wb:World} {Ub:UX} {f:FuncId} {pre post:AS} {cs:List CV} {r:AV} (hX:(Nat.ble 400000 X&&Nat.blt X 450000)=true) (xW:l7 (kO pre) X=false) (hr:y8 pre [(X,[])]=true) (hz:Nat.blt 0 z=true)
  (h:a1f P Wb Ub f (pre++[(X,.mrow e z [])]) (.sl X 0 0 z::cs.map AV.val) r (post++[(X,.mrow e z [])])):a1f P Wb Ub f pre (.own (.lst []) 1::cs.map AV.val) r post:=by
 refine ⟨h.1,fun U w hv a0 vs bG hU hS ha=>?_⟩;simp only [Bool.and_eq_true] at hX;have x1:=Nat.le_of_ble_eq_true hX.1;have x2:=bL hX.2;have kN:RN X:=⟨by omega,x2⟩
 obtain ⟨u,us,rfl,h1,h2⟩:=ha;have hu:u = .slice none 0 0:=by
  obtain ⟨m,c,g1,g2⟩:=h1.2 (.inl rfl);obtain ⟨ao,n,cap,e1,_⟩:=l5.1 h1.1;rw [e1] at g2 |-;have g3:m=0:=by
   rcases m with _ | m
   ·rfl
   ·simp [Value.cells] at g2
  subst g3;have g2:some (Value.slice ao n cap)=some (I2 hv 1):=g2;injection g2
 subst hu;have gA:look pre X=none:=by
  cases e:look pre X with
  | none=>rfl
  | some av=>rw [s8 (i8 e)] at xW;cases xW
 have hf:U.f X=none:=by
  cases e:U.f X with
  | none=>rfl
  | some v=>rw [hU X v e] at xW;cases xW
 have hS1:=hS.newrowF (avn := .mrow e z []) (X:=fun _=>False) (v' := .slice none 0 0) kN hf (q6 hr (X,[]) (by simp)).nr (fun e=>by cases e) (BelowX.refl _ _) (fun b hb=>hb.elim) (fun g hg=>by cases hg) (fun b o hd => .inl hd) (fun b o hd=>hd.elim) (fun b o u h1 h2=>⟨h1,h2⟩) (fun hv lv=>⟨[],World.ownsRow_nil _ _ _ _,bL hz,(fun c hc=>by cases hc),rfl⟩);have hS2:=hS1.congr (s':=pre++[(X,.mrow e z [])]) fun k=>by
  by_cases ek:X=k
  ·subst ek;rw [b9,gA,lS,lS];rfl
  ·rw [lN ek,b9];cases e9:look pre k with
   | some av=>rfl
   | none=>show look [(X,AV.mrow e z [])] k=none;rw [lN ek];rfl
 have fN:VReps (Us w U (fun _ _=>False)) w cs us:=by
  have:∀ (cs:List CV) (us:List Value),AVReps (Us w U (fun _ _=>False)) w hv (a9 pre) (cs.map AV.val) us->VReps (Us w U (fun _ _=>False)) w cs us:=by
   intro cs
   induction cs with
   | nil=>intro us h;exact h
   | cons c cs ih=>rintro us ⟨u,us,e,g1,g2⟩;exact ⟨u,us,e,g1.1,ih _ g2⟩
  exact this cs us h2
 refine (h.2 U w _ a0 _ bG (fun k v hk=>?_) hS2 ⟨_,_,rfl,⟨kN,?_⟩,Z1 _ _ fN⟩).mono ?_
 ·have:=hU k v hk;have hm:k∈kO pre:=by
   cases e9:look pre k with
   | some av=>exact i8 e9
   | none =>
    exfalso;have:=y0 this;obtain ⟨av,h3⟩:=Q8 this;rw [e9] at h3;cases h3
  refine s8 ?_;unfold kO at hm |-;rw [map_append];exact mem_append_left _ hm
 ·show SlV (if X=X then _ else _) 0 0 z _;rw [if_pos rfl];exact I3 rfl (Nat.le_refl _) (.inl rfl)
 ·rintro e' w' ⟨v,D',kG,a',rfl,g1,g2⟩;have hs:Sub (post++[(X,.mrow e z [])]) post:=fun k av hk=>by rw [b9,hk];rfl
  exact ⟨v,D',kG,a',rfl,g1.sub hs,g2.move (fun _ _ _ h1 h2=>⟨h1,h2⟩) (fun _ h7=>h7.imp id fun ⟨e,he⟩=>⟨e,hs _ _ he.1,he.2⟩) fun _=>rfl⟩
end
end
theorem S6 (W:World) (t:Tm):AFun Tryz.prog W 97 [t.cw] (.val (.b (decide (t.f<0)))):=by
 refine c9 (rs:=[.b (decide (t.f<0))]) Tryz.func97 Tryz.ntmps97 rfl rfl rfl rfl ?_;intro w U hW;refine aS (aR ?_);refine nc zd (nc ze ?_);refine aS (aR ?_);refine nc zg (nc zh (nc zi (nc ze ?_)));exact aT ⟨.inr rfl,rfl⟩
theorem W7 (W:World) (t:Tm) (h1 : -9223372036854775808<=t.f) (h2:t.f<0):AFun Tryz.prog W 99 [t.cw] (.val (.i (-1-t.f))):=by
 refine c9 (rs:=[.i (-1-t.f)]) Tryz.func99 Tryz.ntmps99 rfl rfl rfl rfl ?_;intro w U hW;refine aS (aR ?_);refine nc zd (nc ze ?_);refine aS (aR ?_);refine nc zg (nc zh (nc zB (nc ze ?_)));exact aT ⟨.inr rfl,rfl⟩
theorem O6 (W:World) (v:Int) (h1:0<=v) (h2:v<=9223372036854775807):AFun Tryz.prog W 73 [.i v] (.val (q7 v).cw):=by
 refine c9 (rs:=[(q7 v).cw]) Tryz.func73 Tryz.ntmps73 rfl rfl rfl rfl ?_;intro w U hW;refine aS (aR ?_);refine nc zw ?_;refine aS (aR ?_);refine nc zl (nc zB (nc zC (nc zx ?_)));exact aT ⟨.inr rfl,rfl⟩
theorem b6Q (W:World) (l:List Bd) (v:Int) (hl:l.length<=90000000000):AFun Tryz.prog W 161 [.lst (l.map Bd.cv),.i v] (.tup [((d9 l v).getD ⟨0,[]⟩).cw,.b (d9 l v).isSome]):=by
 have kC:=Bd.size_all l;refine c9 (rs:=[((d9 l v).getD ⟨0,[]⟩).cw,.b (d9 l v).isSome]) Tryz.func161 Tryz.ntmps161 rfl rfl rfl rfl ?_;intro w U hW;refine aS (aR ?_);refine nc zw (nc ze ?_);refine aS (aS (aR ?_));refine nc zl (nc zo (nc zl ?_));refine aB (C0 l.length (fun k=>∀ i c,i<k->l[i]?=some c->c.v≠v) (fun k=>[(1,.val (.i v)),(4,.bp 4 0 []),(100004,⟨5,.row [.i 0,.lst []],1,0,[1]⟩),(8,.val (.lst (l.map Bd.cv))),(9,.val (.i (l.map Bd.cv).length)),(10,.val (.i k))]) (a7 ⟨rfl,rfl,rfl,rfl,rfl,rfl,trivial⟩) (by omega) ?_);intro k hk hI;refine aS (aR ?_);refine nc zi ?_;refine aS (aC rfl (fun hc=>?_) (fun hc=>?_))
 ·simp only [length_map,decide_eq_true_eq] at hc;have kF:k<l.length:=by omega
  obtain ⟨b,hb⟩:∃ t,l[k]?=some t:=⟨l[k],getElem?_eq_getElem kF⟩
  have hb':=Bd.map_at hb;refine aK ?_;refine aS (aB (aS (aR ?_)));refine nc (zt (H:=by assumption) (hz:=by first | assumption | exact sZ rfl | exact Tm.size_all _ | exact Bd.size_all _ | exact p8 _ | exact bys_size _ | exact Lt.size_all _)) (nc zu (nc zw (nc zx ?_)));refine aS (aR ?_);refine nc zg (nc zh (nc zl (nc zD ?_)));refine aC rfl (fun gY=>?_) (fun gY=>?_)
  ·simp only [decide_eq_true_eq] at gY;have hf:=b6y hb gY hI;rw [hf];refine aS (aR ?_);refine nc zg (nc zh (nc zx (nc ze ?_)));exact aT (And.intro (.inr rfl) rfl)
  ·simp only [decide_eq_false_iff_not] at gY;refine aK ?_;refine aR ?_;refine nc zA (nc zl ?_);refine ⟨kF,fun i c hi vN=>?_,a7 ⟨rfl,rfl,rfl,rfl,rfl,rfl,trivial⟩⟩;rcases Nat.lt_or_ge i k with h | h
   ·exact hI i c h vN
   ·obtain rfl:i=k:=by omega
    rw [hb] at vN;cases vN;exact gY
 ·simp only [length_map,decide_eq_false_iff_not] at hc;have kF:k=l.length:=by omega
  have hf:d9 l v=none:=B6 fun b hb=>by obtain ⟨i,hi,he⟩:=List.mem_iff_getElem.1 hb;exact hI i b (by omega) (by rw [getElem?_eq_getElem hi,he])
  rw [hf];refine aE ?_;refine aS (aR ?_);refine nc zC (nc zx (nc ze ?_));exact aT (And.intro (.inr rfl) rfl)
theorem b4G (W:World) (l:List Bd) (v:Int) (hl:l.length<=90000000000) (h1:0<=v) (h2:v<=9223372036854775807):AFun Tryz.prog W 126 [.lst (l.map Bd.cv),.i v] (.val (i7 l v).cw):=by
 refine c9 (rs:=[(i7 l v).cw]) Tryz.func126 Tryz.ntmps126 rfl rfl rfl rfl ?_;intro w U hW;refine aS (aR ?_);refine nc zw ?_;refine aS (aS (aR ?_));refine nc zl (nc zl (nc (zk (z:=b6Q w l v hl)) (nc zl (nc zE (nc zE (nc zw (nc zx (nc ze ?_))))))));refine aS (aR ?_);refine nc zl ?_;unfold i7;refine aC rfl (fun hc=>?_) (fun hc=>?_)
 ·obtain ⟨t,ht⟩:=Option.isSome_iff_exists.1 hc;rw [ht];refine aS (aR ?_);refine nc zj (nc zx ?_);exact aT (And.intro (.inr rfl) rfl)
 ·have ht:d9 l v=none:=by simpa using hc
  rw [ht];refine aK ?_;refine aS (aR ?_);refine nc zl (nc (zk (z:=O6 w v h1 h2)) (nc zx ?_));exact aT (And.intro (.inr rfl) rfl)
theorem b1b (W:World) (l:List Bd) (hl:l.length<=64):AFun Tryz.prog W 93 [.lst (l.map Bd.cv)] (.val (.fn 126 1 [.lst (l.map Bd.cv)])):=by
 refine c9 (rs:=[.fn 126 1 [.lst (l.map Bd.cv)]]) Tryz.func93 Tryz.ntmps93 rfl rfl rfl rfl ?_;intro w U hW;refine aS (aR ?_);refine nc ze ?_;refine aS (aS (aR ?_));refine nc zl (nc zo (nc zF ?_));refine aC rfl (fun hc=>?_) (fun hc=>?_)
 ·refine aS (aR ?_);refine nc zl (nc zG (nc ze ?_));exact aT (And.intro (.inr rfl) rfl)
 ·simp only [length_map,decide_eq_false_iff_not] at hc;omega
theorem a2q (W:World) (fc:CV) (img:Int->Tm) (hI:∀ v,0<=v->v<=9223372036854775807->AFunV Tryz.prog W fc [.i v] (.val (img v).cw)/\(img v).rng/\(img v).size<=90000000000):∀ t:Tm,t.rng->t.ok->AFun Tryz.prog W 71 [t.cw,fc] (.val (a8 img t).cw):=by
 intro t
 induction t using Tm.ind with
 | h f l ih =>
 intro hr kH;have kH:=(Tm.ok_iff _).1 kH;have hr:=(Tm.rng_iff _).1 hr;simp only at kH hr;have kC:=Tm.size_all l;refine c9 (rs:=[(a8 img ⟨f,l⟩).cw]) Tryz.func71 Tryz.ntmps71 rfl rfl rfl rfl ?_;intro w U hW;refine aS (aR ?_);refine nc zd (nc zw ?_);refine aS (aS (aR ?_));refine nc zj ?_;refine nc (zk (z:=S6 w ⟨f,l⟩)) ?_;refine aC rfl (fun hc=>?_) (fun hc=>?_)
 ·have hf:f<0:=by simpa using hc
  rw [l4 hf];obtain ⟨i1,i2,i3⟩:=hI (-1-f) (by omega) (by omega);refine aS (aR ?_);refine nc zl (nc zj ?_);refine nc (zk (z:=W7 w ⟨f,l⟩ hr.1.1 hf)) ?_;refine nc (zH (E:=i1.up hW)) (nc (zk (z:=L5 w i2 i3)) (nc zx ?_));exact aT (And.intro (.inr rfl) rfl)
 ·have hf:¬ f<0:=by simpa using hc
  rw [d8 hf];refine aK ?_;refine aS (aR ?_);refine nc ze ?_;refine aS (aS (aR ?_));refine nc zg (nc zh (nc zo (nc zl ?_)));refine aB (n5 l.length (fun k=>[(1,.val fc),(2,.bp 2 0 []),(100002,.bx (Tm.cw ⟨f,l⟩)),(4,.bp 4 0 []),(100004,⟨5,.row [.i 0,.lst []],1,0,[1]⟩),(5,.own (.lst ((l.take k).map fun t=>(a8 img t).cv)) 200027),(200027,.tok 41 2),(16,.val (.lst (l.map Tm.cv))),(17,.val (.i (l.map Tm.cv).length)),(18,.val (.i k))])
   ((R7 5 200027 41 2 rfl rfl rfl rfl rfl rfl rfl).trans (a7 ⟨rfl,rfl,rfl,rfl,rfl,rfl,rfl,rfl,rfl,rfl,trivial⟩)) ?_)
  intro k hk;refine aS (aR ?_);refine nc zi ?_;refine aS (aC rfl (fun hc=>?_) (fun hc=>?_))
  ·have kF:k<l.length:=by simp only [length_map,decide_eq_true_eq] at hc;omega
   obtain ⟨t,ht⟩:∃ t,l[k]?=some t:=⟨l[k],getElem?_eq_getElem kF⟩
   have qR:=Tm.map_at ht;have lV:=mem_of_getElem? ht;have jM:∀ c∈(l.take k).map fun t=>(a8 img t).cv,c.size=2:=by intro c hc;obtain ⟨t,_,rfl⟩:=mem_map.1 hc;exact Tm.size_cv _
   refine aK ?_;refine aS (aB (aS (aR ?_)));refine nc (zt (H:=by assumption) (hz:=by first | assumption | exact sZ rfl | exact Tm.size_all _ | exact Bd.size_all _ | exact p8 _ | exact bys_size _ | exact Lt.size_all _)) (nc zu (nc zw (nc zx ?_)));refine aR ?_;refine nc zl (nc zj (nc zl (nc (zk (z:=(ih t lV (hr.2 t lV) (kH.2 t lV)).up hW)) (nc zy (nc zz (nc ze ?_))))));refine aR ?_;refine nc zA (nc zl ?_);refine ⟨kF,Wk.trans (a7 (s':=[(1,.val fc),(2,.bp 2 0 []),(100002,.bx (Tm.cw ⟨f,l⟩)),(4,.bp 4 0 []),(100004,⟨5,.row [.i 0,.lst []],1,0,[1]⟩),(5,.own (.lst ((l.take (k+1)).map fun t=>(a8 img t).cv)) 300027),(300027,.tok 41 2),(16,.val (.lst (l.map Tm.cv))),(17,.val (.i (l.map Tm.cv).length)),(18,.val (.i ((k+1:Nat):Int)))]) ⟨rfl,rfl,rfl,rfl,rfl,?_,rfl,rfl,rfl,rfl,trivial⟩) (B2 300027 200027 rfl rfl rfl rfl)⟩;rw [List.take_add_one,ht,map_append];simp only [Option.toList_some,map_cons,List.map_nil,Tm.cv_eq];rfl
  ·have kF:k=l.length:=by simp only [length_map,decide_eq_false_iff_not] at hc;omega
   subst kF;rw [List.take_length];refine aE ?_;refine aS (aR ?_);refine nc zg (nc zh (nc zl (nc zC (nc zx ?_))));refine aT (And.intro (.inr rfl) ?_);unfold Tm.cw;rw [map_map];rfl
theorem a4w {v:Int} (h1:0<=v) (h2:v<=9223372036854775807):(q7 v).rng:=(Tm.rng_iff _).2 ⟨by show _ <= -1-v /\ -1-v<=_;omega,fun s hs=>by cases hs⟩
theorem a6q (v:Int):(q7 v).size=1:=by
 rw [Tm.size_eq];have:(q7 v).ps=[]:=by unfold Tm.ps q7;simp
 rw [this];rfl
theorem K9:∀ {l:List Bd} {v:Int} {t:Tm},d9 l v=some t->∃ b∈l,b.t=t/\b.v=v
 | [],v,t,h=>by cases h
 | b::l,v,t,h=>by
  rw [d9] at h;split at h
  ·rename_i e;cases h;exact ⟨b,by simp,rfl,e⟩
  ·obtain ⟨c,h1,h2⟩:=K9 h;exact ⟨c,List.mem_cons_of_mem _ h1,h2⟩
def bdsOk (l:List Bd):Prop:=∀ b∈l,b.t.rng/\b.t.size<=90000000000
theorem a7Y {l:List Bd} (h:bdsOk l) {v:Int} (h1:0<=v) (h2:v<=9223372036854775807):(i7 l v).rng/\(i7 l v).size<=90000000000:=by
 unfold i7;cases hf:d9 l v with
 | none=>exact ⟨a4w h1 h2,by show (q7 v).size<=_;rw [a6q];omega⟩
 | some t =>
  obtain ⟨b,hb,e,_⟩:=K9 hf;show t.rng/\t.size<=_;rw [<-e];exact h b hb
theorem b3G (W:World) (l:List Bd) (t:Tm) (hl:l.length<=64) (hb:bdsOk l) (hr:t.rng) (kH:t.ok):AFun Tryz.prog W 66 [.lst (l.map Bd.cv),t.cw] (.val (a8 (i7 l) t).cw):=by
 refine c9 (rs:=[(a8 (i7 l) t).cw]) Tryz.func66 Tryz.ntmps66 rfl rfl rfl rfl ?_;intro w U hW;refine aS (aR ?_);refine nc zd (nc zw ?_);refine aS (aD (by kernel_rfl) (by kernel_rfl) ?_);refine nc zj (nc zl (nc (zk (z:=b1b w l hl)) ?_));refine nc (zk (z:=a2q w _ (i7 l) (fun v h1 h2=>⟨⟨_,_,_,rfl,b4G w l v (by omega) h1 h2⟩,a7Y hb h1 h2⟩) t hr kH)) ?_;refine nc zx ?_;refine ⟨by kernel_rfl,?_⟩;exact aT (And.intro (.inr rfl) rfl)
def upV (by_ v:Int):Int:=v+min by_ (9223372036854775807-v)
theorem b6f (W:World) (v by_:Int) (h1:0<=v) (h2:v<=9223372036854775807) (h3:0<=by_):AFun Tryz.prog W 72 [.i v,.ptr (.i by_)] (.val (q7 (upV by_ v)).cw):=by
 refine c9 (rs:=[(q7 (upV by_ v)).cw]) Tryz.func72 Tryz.ntmps72 rfl rfl rfl rfl ?_;intro w U hW;refine aS (aR ?_);refine nc zw ?_;refine aS (aR ?_);refine nc zl (nc zI (nc zl (nc zB (nc zJ (nc zA (nc (zk (z:=O6 w (v+min by_ (9223372036854775807-v)) (by omega) (by omega))) (nc zx ?_)))))));exact aT (And.intro (.inr rfl) rfl)
theorem a8j {by_ v:Int} (h1:0<=v) (h2:v<=9223372036854775807) (h3:0<=by_):0<=upV by_ v/\upV by_ v<=9223372036854775807:=by unfold upV;omega
theorem b1E (W:World) (t:Tm) (by_:Int) (hr:t.rng) (kH:t.ok):AFun Tryz.prog W 46 [t.cw,.i by_] (.val (a8 (fun v=>q7 (upV (max by_ 0) v)) t).cw):=by
 refine c9 (rs:=[(a8 (fun v=>q7 (upV (max by_ 0) v)) t).cw]) Tryz.func46 Tryz.ntmps46 rfl rfl rfl rfl ?_;intro w U hW;refine aS (aR ?_);refine nc zd (nc zd (nc zw ?_));refine aS (aR ?_);refine nc zj (nc zK (nc zx ?_));refine AWp.wk (p9 3 rfl rfl rfl (s':=[(2,.bp 2 0 []),(100002,.bx t.cw),(4,.bp 4 0 []),(100004,⟨5,.row [.i 0,.lst []],1,0,[1]⟩)]) ⟨rfl,rfl,rfl,rfl,trivial⟩ rfl rfl rfl) ?_;refine aS (aR ?_);refine nc zj (nc zG ?_);refine nc (zk (z:=a2q w _ (fun v=>q7 (upV (max by_ 0) v)) (fun v h1 h2=>⟨⟨_,_,_,rfl,b6f w v (max by_ 0) h1 h2 (by omega)⟩,a4w (a8j h1 h2 (by omega)).1 (a8j h1 h2 (by omega)).2,by rw [a6q];omega⟩) t hr kH)) ?_;refine nc zx ?_;exact aT (And.intro (.inr rfl) rfl)
def vsL (l:List Tm):List Int:=(l.filter fun s=>decide (s.f<0)).map fun s => -1-s.f
def Tm.vs (t:Tm):List Int:=vsL t.flat
theorem a3P (l m:List Tm):vsL (l++m)=vsL l++vsL m:=by simp [vsL]
theorem X2 (l:List Tm):vsL (l.flatMap Tm.flat)=l.flatMap Tm.vs:=by
 induction l with
 | nil=>rfl
 | cons t l ih=>rw [List.flatMap_cons,a3P,ih,List.flatMap_cons];rfl
theorem Tm.vs_var {t:Tm} (h:t.f<0):t.vs=[-1-t.f]:=by
 unfold Tm.vs;rw [Tm.flat_eq,Tm.ps_of_var h];simp [vsL,h]
theorem Tm.vs_sym {t:Tm} (h:¬ t.f<0):t.vs=t.l.flatMap Tm.vs:=by
 unfold Tm.vs;rw [Tm.flat_eq,Tm.ps_of_sym (by omega),show t::t.l.flatMap Tm.flat=[t]++t.l.flatMap Tm.flat from rfl,a3P,X2];simp [vsL,h];rfl
theorem Tm.strip_vs (t:Tm):t.strip.vs=t.vs:=by
 induction t using Tm.indp with
 | h t ih =>
  by_cases h:t.f<0
  ·rw [Tm.vs_var h,Tm.vs_var (by rw [Tm.strip_f];exact h),Tm.strip_f]
  ·rw [Tm.vs_sym h,Tm.vs_sym (by rw [Tm.strip_f];exact h),Tm.strip_l];rw [Tm.ps_of_sym (by omega)] at ih |-;rw [flatMap_def,flatMap_def,map_map];congr 1;exact map_congr_left fun s hs=>ih s hs
theorem a1C (img:Int->Tm) (t:Tm):(a8 img t).vs=t.vs.flatMap fun v=>(img v).vs:=by
 induction t using Tm.indp with
 | h t ih =>
  by_cases h:t.f<0
  ·rw [l4 h,Tm.vs_var h,Tm.strip_vs];simp
  ·rw [d8 h,Tm.vs_sym h,Tm.vs_sym (t:=⟨t.f,_⟩) h];rw [Tm.ps_of_sym (by omega)] at ih;simp only;rw [List.flatMap_assoc,flatMap_def,map_map,flatMap_def];congr 1;exact map_congr_left fun s hs=>ih s hs
theorem Tm.size_sym {t:Tm} (h:¬ t.f<0):t.size=1+(t.l.map Tm.size).sum:=by
 rw [Tm.size_eq,Tm.ps_of_sym (by omega),List.length_flatMap];rfl
theorem Tm.size_var {t:Tm} (h:t.f<0):t.size=1:=by
 rw [Tm.size_eq,Tm.ps_of_var h];rfl
theorem a5o {l:List Tm} {f g:Tm->Int} (h:∀ s∈l,f s=g s):(l.map f).sum=(l.map g).sum:=by
 rw [map_congr_left h]
theorem a2I (l:List Tm) (g:Int->Int):((l.flatMap Tm.vs).map g).sum=(l.map fun s=>(s.vs.map g).sum).sum:=by
 induction l with
 | nil=>rfl
 | cons t l ih=>rw [List.flatMap_cons,map_append,List.sum_append_int,ih,map_cons,sum_cons]
theorem a9y (l:List Nat):((l.sum:Nat):Int)=(l.map fun n:Nat=>(n:Int)).sum:=by
 induction l with
 | nil=>rfl
 | cons n l ih=>rw [sum_cons,map_cons,sum_cons,<-ih];omega
theorem b8m (l:List Tm) (f g:Tm->Int):(l.map fun s=>f s+g s).sum=(l.map f).sum+(l.map g).sum:=by
 induction l with
 | nil=>rfl
 | cons t l ih=>simp only [map_cons,sum_cons,ih];omega
theorem a6e (img:Int->Tm) (t:Tm):((a8 img t).size:Int)=t.size+(t.vs.map fun v=>((img v).size:Int)-1).sum:=by
 induction t using Tm.indp with
 | h t ih =>
  by_cases h:t.f<0
  ·rw [l4 h,Tm.vs_var h,Tm.strip_size,Tm.size_var h];simp;omega
  ·rw [d8 h,Tm.vs_sym h,Tm.size_sym h,Tm.size_sym (t:=⟨t.f,_⟩) h,a2I];rw [Tm.ps_of_sym (by omega)] at ih;simp only;rw [Int.natCast_add,Int.natCast_add,a9y,a9y,map_map,map_map,map_map,Int.add_assoc,<-b8m];congr 1;exact a5o fun s hs=>ih s hs
theorem b2M (l:List Tm):U4 l=(vsL l).foldl max (-1):=by
 have:∀ (l:List Tm) (m:Int),l.foldl (fun m s=>if s.f<0 then max m (-1-s.f) else m) m=(vsL l).foldl max m:=by
  intro l
  induction l with
  | nil=>intro acc;rfl
  | cons t l ih =>
   intro m;rw [List.foldl_cons,ih];by_cases h:t.f<0
   ·have:vsL (t::l)=(-1-t.f)::vsL l:=by simp [vsL,h]
    rw [this,List.foldl_cons,if_pos h]
   ·have:vsL (t::l)=vsL l:=by simp [vsL,h]
    rw [this,if_neg h]
 exact this l (-1)
theorem o5 (t:Tm):∀ v∈t.vs,0<=v:=by
 intro v hv;obtain ⟨s,hs,rfl⟩:=mem_map.1 hv;have:=(List.mem_filter.1 hs).2;simp at this;omega
theorem c2Q {t:Tm} {B:Int} (h:∀ s∈t.flat,-B<=s.f):∀ v∈t.vs,v<B:=by
 intro v hv;obtain ⟨s,hs,rfl⟩:=mem_map.1 hv;have:=h s (List.mem_filter.1 hs).1;omega
theorem a9K {img:Int->Tm} {t:Tm} (h:t.rng) (hi:∀ v,0<=v->v<=9223372036854775807->(img v).rng):(a8 img t).rng:=by
 induction t using Tm.ind with
 | h f l ih =>
  obtain ⟨h1,h2⟩:=(Tm.rng_iff _).1 h;simp only at h1 h2;by_cases hf:f<0
  ·rw [l4 hf];exact Tm.strip_rng (hi _ (by simp only;omega) (by simp only;omega))
  ·rw [d8 hf];refine (Tm.rng_iff _).2 ⟨h1,fun s hs=>?_⟩;obtain ⟨u,hu,rfl⟩:=mem_map.1 hs;exact ih u hu (h2 u hu)
theorem b3d {img:Int->Tm} {t:Tm} (h:t.ok) (hi:∀ v,(img v).ok):(a8 img t).ok:=by
 induction t using Tm.ind with
 | h f l ih =>
  obtain ⟨h1,h2⟩:=(Tm.ok_iff _).1 h;simp only at h1 h2;by_cases hf:f<0
  ·rw [l4 hf];exact Tm.strip_ok (hi _)
  ·rw [d8 hf];refine (Tm.ok_iff _).2 ⟨by simpa using h1,fun s hs=>?_⟩;obtain ⟨u,hu,rfl⟩:=mem_map.1 hs;exact ih u hu (h2 u hu)
theorem b2h (v:Int):(q7 v).ok:=(Tm.ok_iff _).2 ⟨by show 0<=_;omega,fun s hs=>by cases hs⟩
theorem a9N {l:List Bd} (h:∀ b∈l,b.t.ok) (v:Int):(i7 l v).ok:=by
 unfold i7;cases hf:d9 l v with
 | none=>exact b2h v
 | some t =>
  obtain ⟨b,hb,e,_⟩:=K9 hf;show t.ok;rw [<-e];exact h b hb
theorem o9 (x y:Int):(N7 x y = -1/\x<y)\/(N7 x y=0/\x=y)\/(N7 x y=1/\y<x):=by
 unfold N7;split
 ·exact .inl ⟨rfl,by assumption⟩
 ·split
  ·exact .inr (.inr ⟨rfl,by assumption⟩)
  ·exact .inr (.inl ⟨rfl,by omega⟩)
theorem b1x (x y:Int):(a7M x y = -1/\((x<0/\y<0/\y<x)\/(¬ (x<0/\y<0)/\x<y)))\/(a7M x y=0/\x=y)\/(a7M x y=1/\((x<0/\y<0/\x<y)\/(¬ (x<0/\y<0)/\y<x))):=by
 unfold a7M;split
 ·have:=o9 (-1-x) (-1-y);omega
 ·have:=o9 x y;omega
theorem b3D (a:Tm):∀ b,a0M a b=0↔a.strip=b.strip:=by
 induction a using Tm.indp with
 | h a ih =>
  intro b;rw [b2g,Tm.strip_eq a,Tm.strip_eq b];have hL:∀ (l m:List Tm),(∀ s∈l,∀ b,a0M s b=0↔s.strip=b.strip)->(X4 l m=0↔l.map Tm.strip=m.map Tm.strip):=by
   intro l
   induction l with
   | nil=>intro m _;cases m<;>simp [a0X,a7A,a7O]
   | cons y ys ih2 =>
    intro m hl;cases m with
    | nil=>simp [a0X,a7A,a7O]
    | cons z zs =>
     rw [a6N,map_cons,map_cons,List.cons.injEq,<-hl y (by simp) z,<-ih2 zs (fun s hs=>hl s (List.mem_cons_of_mem _ hs))];by_cases h:a0M y z=0<;>simp [h]
  rw [Tm.mk.injEq];by_cases h1:a.f=b.f
  ·rw [if_neg (by simp [h1])];by_cases h2:a.ps.length=b.ps.length
   ·rw [if_neg (by simp [h2]),hL _ _ ih];simp [h1]
   ·rw [if_pos h2];constructor
    ·intro h3;have:=o9 a.ps.length b.ps.length;omega
    ·rintro ⟨_,h3⟩;exact absurd (by simpa using congrArg List.length h3) h2
  ·rw [if_pos h1];constructor
   ·intro h3;have:=b1x a.f b.f;omega
   ·rintro ⟨h3,_⟩;exact absurd h3 h1
theorem A0 (a b:Tm):E5 a b=true↔a.strip=b.strip:=by
 unfold E5;rw [beq_iff_eq];exact b3D a b
set_option maxHeartbeats 1000000 in
theorem b7i (W:World):∀ (t:Tm),t.ok->AFun Tryz.prog W 26 [t.cw] (.val t.cw):=by
 intro t
 induction t using Tm.ind with
 | h f l ih =>
 intro kH;obtain ⟨hl,kH⟩:=(Tm.ok_iff _).1 kH;simp only at hl kH;refine c9 (rs:=[Tm.cw ⟨f,l⟩]) Tryz.func26 Tryz.ntmps26 rfl rfl rfl rfl ?_;intro w U hW;refine aS (aR ?_);refine nc zd (nc zw ?_);refine aS (aR ?_);refine nc zg (nc zh (nc zC (nc zw (nc zx ?_))));refine aS (aS (aR ?_));refine nc ze ?_;refine aB (n5 l.length (fun k=>[(1,.bp 1 0 []),(100001,.bx (Tm.cw ⟨f,l⟩)),(2,.bp 2 0 []),(100002,⟨5,.row [.i 0,.lst []],1,0,[1]⟩),(3,.bp 3 0 []),(100003,⟨5,.row [.i f,.lst ((l.take k).map Tm.cv)],200024,0,[1]⟩),(200024,.tok 41 2),(4,.val (.i k))])
  ((R7 100003 200024 41 2 rfl rfl rfl rfl rfl rfl rfl).trans (a7 ⟨rfl,rfl,rfl,rfl,rfl,rfl,rfl,rfl,trivial⟩)) ?_)
 intro k hk;refine aS (aS (aR ?_));refine nc zl (nc zg (nc zh (nc zo (nc zi ?_))));refine aC rfl (fun hc=>?_) (fun hc=>?_)
 ·simp only [length_map,decide_eq_true_eq] at hc;have kF:k<l.length:=by omega
  obtain ⟨t,ht⟩:∃ t,l[k]?=some t:=⟨l[k],getElem?_eq_getElem kF⟩
  refine aK ?_;refine aS (aB (aD (by kernel_rfl) (by kernel_rfl) ?_));refine nc zg (nc zL (nc zg (nc zh (nc zl (nc (zt (j:=_) (H:=Tm.map_at ht) (hz:=Tm.size_all l)) (nc zu (nc (zk (z:=(ih t (mem_of_getElem? ht) (kH t (mem_of_getElem? ht))).up hW)) (nc zy (nc zz (nc zg (nc zM ?_)))))))))));refine ⟨by kernel_rfl,?_⟩;refine aR ?_;refine nc zl (nc zA (nc ze ?_));refine ⟨kF,Wk.trans (a7 (s':=[(1,.bp 1 0 []),(100001,.bx (Tm.cw ⟨f,l⟩)),(2,.bp 2 0 []),(100002,⟨5,.row [.i 0,.lst []],1,0,[1]⟩),(3,.bp 3 0 []),(100003,⟨5,.row [.i f,.lst ((l.take (k+1)).map Tm.cv)],300024,0,[1]⟩),(300024,.tok 41 2),(4,.val (.i ((k+1:Nat):Int)))]) ⟨rfl,rfl,rfl,rfl,rfl,?_,rfl,rfl,trivial⟩) (B2 300024 200024 rfl rfl rfl rfl)⟩;rw [List.take_add_one,ht,map_append];simp only [Option.toList_some,map_cons,List.map_nil,Tm.cv_eq];rfl
 ·refine aE ?_;have kF:k=l.length:=by simp only [length_map,decide_eq_false_iff_not] at hc;omega
  subst kF;rw [List.take_length];refine aS (aR ?_);refine nc zj (nc zx ?_);exact aT ⟨.inr rfl,rfl⟩
def n6 (l:List Bd):Tm->Tm
 | ⟨f,ts⟩=>if f<0 then i7 l (-1-f) else ⟨f,ts.map (n6 l)⟩
theorem a5c {l:List Bd} {t:Tm} (h:t.f<0):n6 l t=i7 l (-1-t.f):=by cases t;rw [n6,if_pos h]
theorem a5d {l:List Bd} {t:Tm} (h:¬ t.f<0):n6 l t=⟨t.f,t.l.map (n6 l)⟩:=by cases t;rw [n6,if_neg h]
theorem a7L {l:List Bd} {t:Tm} (h:t.ok) (hi:∀ b∈l,b.t.ok):(n6 l t).ok:=by
 induction t using Tm.ind with
 | h f ts ih =>
  obtain ⟨h1,h2⟩:=(Tm.ok_iff _).1 h;simp only at h1 h2;by_cases hf:f<0
  ·rw [a5c hf];exact a9N hi _
  ·rw [a5d hf];refine (Tm.ok_iff _).2 ⟨by simpa using h1,fun s hs=>?_⟩;obtain ⟨u,hu,rfl⟩:=mem_map.1 hs;exact ih u hu (h2 u hu)
theorem D7 {f g:Int->Tm} {t:Tm} (h:∀ v∈t.vs,f v=g v):a8 f t=a8 g t:=by
 induction t using Tm.indp with
 | h t ih =>
  by_cases hf:t.f<0
  ·rw [Tm.vs_var hf] at h;rw [l4 hf,l4 hf,h _ (by simp)]
  ·rw [Tm.vs_sym hf] at h;rw [Tm.ps_of_sym (by omega)] at ih;rw [d8 hf,d8 hf];congr 1;exact map_congr_left fun s hs=>ih s hs fun v hv=>h v (List.mem_flatMap.2 ⟨s,hs,hv⟩)
theorem w9 (v:Int):(q7 v).strip=q7 v:=by
 rw [Tm.strip_eq];have:(q7 v).ps=[]:=by unfold Tm.ps q7;simp
 rw [this];rfl
theorem b5F (img:Int->Tm) (g:Int->Int) {t:Tm} (h:∀ v∈t.vs,0<=g v):a8 img (a8 (fun v=>q7 (g v)) t)=a8 (fun v=>img (g v)) t:=by
 induction t using Tm.indp with
 | h t ih =>
  by_cases hf:t.f<0
  ·rw [Tm.vs_var hf] at h;have h:=h _ (List.mem_singleton.2 rfl);rw [l4 hf,l4 hf,w9,l4 (by show -1-g (-1-t.f)<0;omega)];show (img (-1-(-1-g (-1-t.f)))).strip=_;rw [show -1-(-1-g (-1-t.f))=g (-1-t.f) by omega]
  ·rw [Tm.vs_sym hf] at h;rw [Tm.ps_of_sym (by omega)] at ih;rw [d8 hf,d8 (t:=⟨t.f,_⟩) hf,d8 hf];simp only [map_map];congr 1;exact map_congr_left fun s hs=>ih s hs fun v hv=>h v (List.mem_flatMap.2 ⟨s,hs,hv⟩)
theorem a2R (t:Tm):a8 q7 t=t.strip:=by
 induction t using Tm.indp with
 | h t ih =>
  by_cases hf:t.f<0
  ·rw [l4 hf,w9,Tm.strip_eq,Tm.ps_of_var hf];unfold q7;rw [show -1-(-1-t.f)=t.f by omega];rfl
  ·rw [Tm.ps_of_sym (by omega)] at ih;rw [d8 hf,Tm.strip_eq,Tm.ps_of_sym (by omega)];congr 1;exact map_congr_left fun s hs=>ih s hs
theorem L4 (img:Int->Tm) (t:Tm):a8 img t.strip=a8 img t:=by
 induction t using Tm.indp with
 | h t ih =>
  by_cases hf:t.f<0
  ·rw [l4 hf,l4 (by rw [Tm.strip_f];exact hf),Tm.strip_f]
  ·rw [Tm.ps_of_sym (by omega)] at ih;rw [d8 hf,d8 (by rw [Tm.strip_f];exact hf),Tm.strip_f,Tm.strip_l,Tm.ps_of_sym (by omega),map_map];congr 1;exact map_congr_left fun s hs=>ih s hs
theorem A6 (img:Int->Tm) (t:Tm):(a8 img t).strip=a8 img t:=by
 induction t using Tm.indp with
 | h t ih =>
  by_cases hf:t.f<0
  ·rw [l4 hf,Tm.strip_strip]
  ·rw [Tm.ps_of_sym (by omega)] at ih;rw [d8 hf,Tm.strip_eq,Tm.ps_of_sym (t:=⟨t.f,_⟩) (by show 0<=t.f;omega)];simp only [map_map];congr 1;exact map_congr_left fun s hs=>ih s hs
section
variable {α:Type} (lt:α->α->Bool) (a:Nat)
def a0S:Nat->List α->List α
 | 0,L=>L
 | j+1,L=>match L[j+1]?,L[j]? with
  | some x,some y=>if a<j+1/\lt x y=true then a0S j ((L.set (j+1) y).set j x) else L
  | _,_=>L
def E2:Nat->Nat->List α->List α
 | 0,_,L=>L
 | n+1,i,L=>E2 n (i+1) (a0S lt a i L)
theorem a9t:∀ (j:Nat) (L:List α),(a0S lt a j L).length=L.length
 | 0,L=>rfl
 | j+1,L=>by
  unfold a0S;split
  ·split
   ·rw [a9t j];simp
   ·rfl
  ·rfl
theorem b3Z {j:Nat} {L:List α} (h:¬ a<j):a0S lt a j L=L:=by
 cases j with
 | zero=>rfl
 | succ j=>unfold a0S;split<;>simp [h]
theorem b2t {j:Nat} {L:List α} {x y:α} (hx:L[j+1]?=some x) (hy:L[j]?=some y) (h:lt x y=false):a0S lt a (j+1) L=L:=by
 unfold a0S;rw [hx,hy];simp [h]
theorem b0k {j:Nat} {L:List α} {x y:α} (hx:L[j+1]?=some x) (hy:L[j]?=some y) (ha:a<j+1) (h:lt x y=true):a0S lt a (j+1) L=a0S lt a j ((L.set (j+1) y).set j x):=by
 conv=>lhs;unfold a0S
 rw [hx,hy];simp [h,ha]
theorem a4o:∀ (n i:Nat) (L:List α),(E2 lt a n i L).length=L.length
 | 0,_,L=>rfl
 | n+1,i,L=>by rw [E2,a4o n,a9t]
end
def ltC (cmp:Bd->Bd->Int) (x y:Bd):Bool:=decide (cmp x y<0)
theorem M1 (l:List Bd) (j:Nat) (b:Bd):(l.map Bd.cv).set j b.cw=(l.set j b).map Bd.cv:=by rw [List.map_set];rfl
theorem a8P (cmp:Bd->Bd->Int) (fc:CV) (L0:List Bd) (a b:Nat) (ha:a<=L0.length) (hb:b<=L0.length) (hn:L0.length<=1000000000) (hc:∀ W x y,P7 Tryz.prog W fc [x.cw,y.cw] (.val (.i (cmp x y)))) :
  r5 Tryz.prog 183 [(400000,.mrow 112 3 (L0.map Bd.cv))] [.sl 400000 0 L0.length 3,.val (.i a),.val (.i b),.val fc] (.tup []) [(400000,.mrow 112 3 ((E2 (ltC cmp) a (b-(a+1)) (a+1) L0).map Bd.cv))]:=by
 refine l6 Tryz.func183 Tryz.ntmps183 rfl rfl rfl rfl rfl rfl ?_;intro w U hU;obtain ⟨T,hT⟩:∃ T,T=E2 (ltC cmp) a (b-(a+1)) (a+1) L0:=⟨_,rfl⟩
 rw [<-hT];refine aS (aR ?_);refine nc zl (nc zA (nc ze ?_))
 let st:Nat->List Bd->AS:=fun i L=>[(0,.sl 400000 0 L0.length 3),(1,.val (.i a)),(2,.val (.i b)),(3,.val fc),(8,.val (.i i)),(400000,.mrow 112 3 (L.map Bd.cv))]
 refine aB (t9 (fun m s=>∃ i L,m=(b+1)-i/\L.length=L0.length/\a+1<=i/\E2 (ltC cmp) a (b-i) i L=T/\s=st i L) (s':=st (a+1) L0) (a7 ⟨rfl,rfl,rfl,rfl,rfl,rfl,trivial⟩) ⟨a+1,L0,rfl,rfl,Nat.le_refl _,hT.symm,rfl⟩ ?_);rintro m s ⟨i,L,rfl,hL,hi,hI,rfl⟩;refine aS (aS (aR ?_));refine nc zl (nc zl (nc zi ?_));refine aC rfl (fun kA=>?_) (fun kA=>?_)
 ·have hib:i<b:=by simpa using kA
  refine aK ?_;refine aS (aB (aS (aR ?_)));refine nc zl (nc ze ?_)
  let st2:Nat->List Bd->AS:=fun j L=>[(0,.sl 400000 0 L0.length 3),(1,.val (.i a)),(2,.val (.i b)),(3,.val fc),(8,.val (.i i)),(9,.val (.i j)),(400000,.mrow 112 3 (L.map Bd.cv))]
  refine aB (t9 (fun m s=>∃ j L',m=j/\L'.length=L0.length/\j<=i/\a0S (ltC cmp) a j L'=a0S (ltC cmp) a i L/\s=st2 j L') (s':=st2 i L) (a7 ⟨rfl,rfl,rfl,rfl,rfl,rfl,rfl,trivial⟩) ⟨i,L,rfl,hL,Nat.le_refl _,rfl,rfl⟩ ?_);rintro m s ⟨j,L',hmj,hL',mL,hJ,rfl⟩;by_cases xX:a<j
  ·obtain ⟨j,rfl⟩:∃ k,j=k+1:=⟨j-1,by omega⟩
   obtain ⟨x,hx⟩:∃ x,L'[j+1]?=some x:=⟨L'[j+1]'(by omega),getElem?_eq_getElem (by omega)⟩
   obtain ⟨y,hy⟩:∃ y,L'[j]?=some y:=⟨L'[j]'(by omega),getElem?_eq_getElem (by omega)⟩
   have kS:=Bd.map_at hx;have eM:=Bd.map_at hy;have g:decide (((j+1:Nat):Int)>(a:Int))=true:=by simp;omega
   refine aS (aS (aD (by kernel_rfl) (by kernel_rfl) ?_));refine nc zl (nc zl (nc zN (nc zl (nc (zl (p:=gb)) (nc (zl (p:=gb)) (nc (zl (p:=gb)) (nc (zO (k:=j+1) (p:=gb)) (nc (zP (r:=gb) (G:=kS)) (nc (zl (p:=gb)) (nc (zl (p:=gb)) (nc (zB (r:=gb)) (nc (zO (k:=j) (p:=gb)) (nc (zP (r:=gb) (G:=eM)) (nc (zQ (t:=gb) (E:=hc _ x y)) (nc (zi (r:=gb)) (nc zp ?_))))))))))))))));refine ⟨by kernel_rfl,?_⟩;refine aC rfl (fun gO=>?_) (fun gO=>?_)
   ·have fT:ltC cmp x y=true:=gO;refine aK ?_;refine AWp.wk (a7 (s':=st2 (j+1) L') ⟨rfl,rfl,rfl,rfl,rfl,rfl,rfl,trivial⟩) ?_;refine aS (aB (aD (by kernel_rfl) (by kernel_rfl) ?_));refine nc zl (nc zl (nc zl (nc zl (nc zB (nc zl (nc zl (nc zB (nc (zO (k:=j)) (nc (zP (G:=eM)) (nc zl (nc zl (nc (zO (k:=j+1)) (nc (zP (G:=kS)) (nc (zO (k:=j+1)) (nc (zR (F:=kS)) (nc (zO (k:=j)) ?_))))))))))))))));refine nc (zR (F:=(by rw [List.getElem?_set_ne (by omega)];exact eM))) ?_;refine ⟨by kernel_rfl,?_⟩;refine aR ?_;refine nc zl (nc zB (nc ze ?_));refine ⟨j,st2 j ((L'.set (j+1) y).set j x),by omega,⟨j,_,rfl,by simp [hL'],by omega,?_,rfl⟩,a7 ⟨rfl,rfl,rfl,rfl,rfl,?_,?_,trivial⟩⟩
    ·rw [<-hJ,b0k _ _ hx hy xX fT]
    ·show some (AV.val (.i _))=some (AV.val (.i _));congr 3;omega
    ·show some (AV.mrow _ _ _)=some (AV.mrow _ _ _);rw [M1,M1]
   ·have fT:ltC cmp x y=false:=gO;refine aE ?_;refine AWp.wk (a7 (s':=st2 (j+1) L') ⟨rfl,rfl,rfl,rfl,rfl,rfl,rfl,trivial⟩) ?_;refine aR ?_;refine nc zl (nc zA (nc ze ?_));refine ⟨(b+1)-(i+1),st (i+1) L',by omega,⟨i+1,L',rfl,hL',by omega,?_,rfl⟩,a7 ⟨rfl,rfl,rfl,rfl,rfl,rfl,trivial⟩⟩;have hs:L'=a0S (ltC cmp) a i L:=by rw [<-hJ,b2t _ _ hx hy fT]
    rw [<-hI,show b-i=(b-(i+1))+1 by omega,E2,hs]
  ·have g:decide ((j:Int)>(a:Int))=false:=by simp;omega
   refine aS (aS (aD (by kernel_rfl) (by kernel_rfl) ?_));refine nc zl (nc zl (nc zN (nc zl (nc zq (nc zq (nc zq (nc zq (nc zq (nc zq (nc zq (nc zq (nc zq (nc zq (nc zq (nc zq (nc zr ?_))))))))))))))));refine ⟨by kernel_rfl,?_⟩;refine aC rfl (fun gO=>?_) (fun gO=>?_)
   ·cases gO
   ·refine aE ?_;refine AWp.wk (a7 (s':=st2 (j) L') ⟨rfl,rfl,rfl,rfl,rfl,rfl,rfl,trivial⟩) ?_;refine aR ?_;refine nc zl (nc zA (nc ze ?_));refine ⟨(b+1)-(i+1),st (i+1) L',by omega,⟨i+1,L',rfl,hL',by omega,?_,rfl⟩,a7 ⟨rfl,rfl,rfl,rfl,rfl,rfl,trivial⟩⟩;have hs:L'=a0S (ltC cmp) a i L:=by rw [<-hJ,b3Z _ _ xX]
    rw [<-hI,show b-i=(b-(i+1))+1 by omega,E2,hs]
 ·have hib:¬ i<b:=by simpa using kA
  refine aE ?_;refine ⟨.inl rfl,_,Wk.refl _,rfl,?_,trivial⟩;show some (AV.mrow _ _ _)=some (AV.mrow _ _ _);rw [show b-i=0 by omega] at hI;rw [<-hI];rfl
theorem a4h (W:World) (x y:Int):AFun Tryz.prog W 137 [.i x,.i y] (.val (.i (N7 x y))):=by
 refine ⟨x9 Tryz.func137 rfl rfl,.inl rfl,rfl,?_⟩;rintro U w vs hW ⟨u1,us1,rfl,h1,u2,us2,rfl,h2,h3⟩;have h3:us2=[]:=h3;subst h3;obtain ⟨rfl,_⟩:=n8.1 h1;obtain ⟨rfl,_⟩:=n8.1 h2;refine (M8 x y w).mono ?_;rintro e w' ⟨rfl,hb⟩;exact ⟨_,rfl,n8.2 ⟨rfl,rfl⟩,hb⟩
def b3t (x y:Bd):Int:=N7 x.v y.v
theorem b5z (W:World) (x y:Bd):AFun Tryz.prog W 178 [x.cw,y.cw] (.val (.i (b3t x y))):=by
 refine c9 (rs:=[.i (b3t x y)]) Tryz.func178 Tryz.ntmps178 rfl rfl rfl rfl ?_;intro w U hW;refine aS (aR ?_);refine nc zd (nc zd (nc ze ?_));refine aS (aR ?_);refine nc zg (nc zh (nc zg (nc zh (nc (zk (z:=a4h _ x.v y.v)) (nc ze ?_)))));exact aT ⟨.inr rfl,rfl⟩
theorem b4U (W:World) (x y:Bd):AFun Tryz.prog W 180 [x.cw,y.cw] (.val (.b (decide (x.v=y.v)))):=by
 refine c9 (rs:=[.b (decide (x.v=y.v))]) Tryz.func180 Tryz.ntmps180 rfl rfl rfl rfl ?_;intro w U hW;refine aS (aR ?_);refine nc zd (nc zd (nc ze ?_));refine aS (aR ?_);refine nc zg (nc zh (nc zg (nc zh (nc zD (nc ze ?_)))));exact aT ⟨.inr rfl,rfl⟩
def Y7 (b:Bd):Bool:=decide (b.t.f<0)&&decide (-1-b.t.f=b.v)
theorem b5u (W:World) (b:Bd) (h1 : -9223372036854775808<=b.t.f):AFun Tryz.prog W 160 [b.cw] (.val (.b (Y7 b))):=by
 refine c9 (rs:=[.b (Y7 b)]) Tryz.func160 Tryz.ntmps160 rfl rfl rfl rfl ?_;intro w U hW;refine aS (aR ?_);refine nc zd (nc ze ?_);unfold Y7;by_cases hf:b.t.f<0
 ·have g:decide (b.t.f<0)=true:=by simpa using hf
  refine aS (aD (by kernel_rfl) (by kernel_rfl) ?_);refine nc zg (nc zh (nc (zk (z:=S6 _ b.t)) (nc zl (nc (zg (r:=gb)) (nc (zh (r:=gb)) (nc (zk (p:=gb) (z:=W7 _ b.t h1 hf)) (nc (zg (r:=gb)) (nc (zh (r:=gb)) (nc (zD (r:=gb)) (nc zp (nc ze ?_)))))))))));refine ⟨by kernel_rfl,?_⟩;refine aT ⟨.inr rfl,?_⟩;rw [g];rfl
 ·have g:decide (b.t.f<0)=false:=by simpa using hf
  refine aS (aD (by kernel_rfl) (by kernel_rfl) ?_);refine nc zg (nc zh (nc (zk (z:=S6 _ b.t)) (nc zl (nc zq (nc zq (nc zq (nc zq (nc zq (nc zq (nc zr (nc ze ?_)))))))))));refine ⟨by kernel_rfl,?_⟩;refine aT ⟨.inr rfl,?_⟩;rw [g];rfl
theorem b0W (L:List Bd) (hn:L.length<=1000000000) :
  r5 Tryz.prog 176 [] [.val (.lst (L.map Bd.cv))] (.sl 250007 0 L.length 3) [(250007,.mrow 112 3 (L.map Bd.cv))]:=by
 have kC:=Bd.size_all L;refine l6 Tryz.func176 Tryz.ntmps176 rfl rfl rfl rfl rfl rfl ?_;intro w U hU;refine AWp.nil 0 rfl rfl (fun hl=>?_) ?_
 ·have hL:L=[]:=by simpa using hl
  subst hL;refine aS (aR ?_);refine nc ze ?_;refine aS (aS (aR ?_));refine nc zl (nc zS ?_);refine aC rfl (fun _=>?_) (fun h=>by cases h);refine aS (aR ?_);refine nc ze ?_;exact aT ⟨.inr rfl,_,b8K 2 250007 112 3 rfl rfl rfl rfl rfl,rfl,rfl,trivial⟩
 ·refine aS (aR ?_);refine nc ze ?_;refine aS (aS (aR ?_));refine nc zl (nc zT ?_);refine aC rfl (fun h=>by cases h) (fun _=>?_);refine aK ?_;refine AWp.wk ((c1r 0 rfl rfl).trans (a7 (s':=[(0,.val (.lst (L.map Bd.cv)))]) ⟨rfl,trivial⟩)) ?_;refine aS (aR ?_);refine nc zU (nc zl (nc (zV 250007) (nc ze ?_)));refine aT ⟨.inr rfl,_,Wk.refl _,?_,rfl,trivial⟩;show some (AV.sl _ _ _ _)=some (AV.sl _ _ _ _);rw [length_map];rfl
theorem b0Y (cmp:Bd->Bd->Int) (fc:CV) (L:List Bd) (hn:L.length<20) (hc:∀ W x y,P7 Tryz.prog W fc [x.cw,y.cw] (.val (.i (cmp x y)))) :
  r5 Tryz.prog 182 [(400000,.mrow 112 3 (L.map Bd.cv))] [.sl 400000 0 L.length 3,.val (.i L.length),.val fc] (.tup []) [(400000,.mrow 112 3 ((E2 (ltC cmp) 0 (L.length-1) 1 L).map Bd.cv))]:=by
 refine l6 Tryz.func182 Tryz.ntmps182 rfl rfl rfl rfl rfl rfl ?_;intro w U hU;refine aS (aR ?_);refine nc ze ?_;refine aS (aR ?_);refine nc zl (nc ze (nc ze ?_))
 let st:AS:=[(0,.sl 400000 0 L.length 3),(1,.val (.i L.length)),(2,.val fc),(6,.val (.i 20)),(7,.val (.i 0)),(8,.val (.i 20)),(400000,.mrow 112 3 (L.map Bd.cv))]
 refine aS (aB (n5 0 (fun k=>st) (a7 ⟨rfl,rfl,rfl,rfl,rfl,rfl,rfl,trivial⟩) ?_));intro k hk;refine aS (aS (aR ?_));refine nc zl (nc zl (nc zF ?_));refine aC rfl (fun h=>?_) (fun _=>?_)
 ·exfalso;have h:decide ((20:Int)<=(L.length:Int))=true:=h;simp at h;omega
 refine aE ?_;refine AWp.wk (a7 (s':=st) ⟨rfl,rfl,rfl,rfl,rfl,rfl,rfl,trivial⟩) ?_;have vO:=a8P cmp fc L 0 L.length (by omega) (Nat.le_refl _) (by omega) hc;rw [Nat.zero_add] at vO;refine aS (aR ?_);refine nc zl (nc zl (nc zl (nc zl (nc (zW (z:=vO) (G:=i0 (by first | rfl | kernel_rfl))) ?_))));refine aB (n5 0 (fun k=>[(1,.val (.i L.length)),(6,.val (.i 20)),(400000,.mrow 112 3 ((E2 (ltC cmp) 0 (L.length-1) 1 L).map Bd.cv))]) (a7 ⟨rfl,rfl,rfl,trivial⟩) ?_);intro k hk;refine aS (aS (aR ?_));refine nc zl (nc zl (nc zi ?_));refine aC rfl (fun h=>?_) (fun _=>?_)
 ·exfalso;have h:decide ((20:Int)<(L.length:Int))=true:=h;simp at h;omega
 refine aE ?_;exact ⟨.inl rfl,_,Wk.refl _,rfl,rfl,trivial⟩
theorem a3a (cmp:Bd->Bd->Int) (fc:CV) (L:List Bd) (hn:L.length<20) (hc:∀ W x y,P7 Tryz.prog W fc [x.cw,y.cw] (.val (.i (cmp x y)))) :
  r5 Tryz.prog 177 [(400000,.mrow 112 3 (L.map Bd.cv))] [.sl 400000 0 L.length 3,.val fc] (.tup []) [(400000,.mrow 112 3 ((E2 (ltC cmp) 0 (L.length-1) 1 L).map Bd.cv))]:=by
 refine l6 Tryz.func177 Tryz.ntmps177 rfl rfl rfl rfl rfl rfl ?_;intro w U hU;have dD:=b0Y cmp fc L hn hc;refine aR ?_;refine nc zl (nc zl (nc zX (nc zl (nc (zW (z:=dD) (G:=i0 (by first | rfl | kernel_rfl))) ?_))));exact ⟨.inl rfl,_,Wk.refl _,rfl,rfl,trivial⟩
def a7P (q:Bd->Bool):List Bd->Nat->Int
 | [],_ => -1
 | b::l,i=>if q b then (i:Int) else a7P q l (i+1)
theorem a2e {q:Bd->Bool}:∀ {l:List Bd} {i:Nat},(∀ b∈l,q b=false)->a7P q l i = -1
 | [],_,_=>rfl
 | b::l,i,h=>by rw [a7P,h b (by simp),if_neg (by simp)];exact a2e fun c hc=>h c (List.mem_cons_of_mem _ hc)
theorem a7k {q:Bd->Bool}:∀ {l:List Bd} {i k:Nat} {b:Bd},l[k]?=some b->q b=true->(∀ j c,j<k->l[j]?=some c->q c=false)->a7P q l i=((i+k:Nat):Int)
 | [],_,_,_,h,_,_=>by simp at h
 | x::l,i,0,b,h,hq,_=>by simp at h;subst h;rw [a7P,if_pos hq];rfl
 | x::l,i,k+1,b,h,hq,hf=>by
  rw [a7P,hf 0 x (by omega) rfl,if_neg (by simp),a7k (k:=k) (by simpa using h) hq fun j c hj hc=>hf (j+1) c (by omega) (by simpa using hc)];congr 1;omega
theorem b1w (q:Bd->Bool) (fc:CV) (L:List Bd) (n:Nat) (sD:n<=L.length) (hn:L.length<=1000000000) (hc:∀ W x,x∈L.take n->P7 Tryz.prog W fc [x.cw] (.val (.b (q x)))) :
  r5 Tryz.prog 175 [(400000,.mrow 112 3 (L.map Bd.cv))] [.sl 400000 0 n 3,.val fc] (.val (.i (a7P q (L.take n) 0))) [(400000,.mrow 112 3 (L.map Bd.cv))]:=by
 refine l6 Tryz.func175 Tryz.ntmps175 rfl rfl rfl rfl rfl rfl ?_;intro w U hU;refine aS (aR ?_);refine nc ze ?_;refine aS (aS (aR ?_));refine nc zl (nc zX (nc zl ?_));refine aB (C0 n (fun k=>∀ j c,j<k->(L.take n)[j]?=some c->q c=false) (fun k=>[(0,.sl 400000 0 n 3),(1,.val fc),(7,.val (.i n)),(8,.val (.i k)),(400000,.mrow 112 3 (L.map Bd.cv))]) (a7 ⟨rfl,rfl,rfl,rfl,rfl,trivial⟩) (fun j c hj=>by omega) ?_);intro k hk hI;refine aS (aR ?_);refine nc zi ?_;refine aS (aC rfl (fun kA=>?_) (fun kA=>?_))
 ·have kF:k<n:=by simpa using kA
  obtain ⟨x,jQ⟩:∃ x,L[k]?=some x:=⟨L[k]'(by omega),getElem?_eq_getElem (by omega)⟩
  have hx:(L.take n)[k]?=some x:=by rw [List.getElem?_take,if_pos kF];exact jQ
  have kS:=Bd.map_at jQ;refine aK ?_;refine aS (aB (aS (aR ?_)));refine nc zl (nc ze ?_);refine aS (aR ?_);refine nc zl (nc zl (nc zl (nc (zO (k:=k)) (nc (zP (G:=kS)) (nc (zQ (E:=hc _ x (mem_of_getElem? hx))) ?_)))));refine aC rfl (fun hq=>?_) (fun hq=>?_)
  ·refine aS (aR ?_);refine nc zl (nc ze ?_);refine aT ⟨.inr rfl,_,Wk.refl _,?_,rfl,trivial⟩;rw [a7k hx hq hI,Nat.zero_add];rfl
  ·refine aK ?_;refine aR ?_;refine nc zA (nc zl ?_);refine ⟨kF,fun j c hj hc=>?_,a7 ⟨rfl,rfl,rfl,rfl,rfl,trivial⟩⟩;rcases Nat.lt_or_ge j k with h | h
   ·exact hI j c h hc
   ·have:j=k:=by omega
    subst this;rw [hx] at hc;cases hc;exact hq
 ·have kF:¬ k<n:=by simpa using kA
  refine aE ?_;refine aS (aR ?_);refine nc ze ?_;refine aT ⟨.inr rfl,_,Wk.refl _,?_,rfl,trivial⟩;rw [a2e fun b hb=>?_]
  ·rfl
  ·obtain ⟨j,hj⟩:=List.getElem?_of_mem hb;have gJ:j<n:=by
    rw [List.getElem?_take] at hj;split at hj
    ·assumption
    ·cases hj
   exact hI j b (by omega) hj
end Go.Proofs.YteegmcfobgpemaaGreat
