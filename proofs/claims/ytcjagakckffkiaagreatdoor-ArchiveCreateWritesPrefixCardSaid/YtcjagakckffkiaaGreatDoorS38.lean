import Derived.Test.YtcjagakckffkiaaGreatDoorS37
set_option maxHeartbeats 16000000
set_option maxRecDepth 100000
namespace Go.Proofs.YtcjagakckffkiaaGreatDoor
section
open Go.RowKit
theorem qc {P:Program}(w:World)(t e:TypeId)(ht:P.underlying t=some (.slice e))(i0:TypeInfo)(hI:Hid (P.info? e=some i0/\i0.zero=some (.int .u8 0)/\i0.size=1/\i0.bytes=1))(n:Nat)(hn:n<=140737488355328) :
 ∃w',(Instr.makeSlice t (.int .i64 n) (.int .i64 n)).run P w= .ok (.slice (some ⟨w.heap.size,0,none⟩) n n) w'/\br w' w.heap.size e (ao n)/\Below w.heap.size w w':=by
 obtain⟨w',hr,h1,h2⟩:=run_make_full (P:=P) w w.heap.size t e i0 (.int .u8 0) 1 ht hI.out.1 hI.out.2.1 hI.out.2.2.1 .i64 .i64 n (by rw[hI.out.2.2.2];omega) (by unfold maxLen;omega) aj
 have hm: (madeCells (Value.int .u8 0).cells (n*1)).toList= (ao n).map (.int .u8) :=by
  apply List.ext_getElem?;intro i;by_cases h:i<n<;>simp[ao,madeCells,Value.cells,h,Nat.mod_one]
 rw[hm]at h1;exact⟨w',hr,.bG h1 (cq n),au.grown h2 aj (fun _ h=>by cases h)⟩
end
namespace Arc
open Go.Lib Go.RowKit Go.Proofs.YtcjagakckffkiaaGreatDoor.Fit Pxr Pnm Tre Flt fQ Reb
section
variable {P:Program} {w:World} {ops:Array Oper} {o:Oper} {a:Act} {Q:Exit->Act->World->Prop} {K:Act->World->Prop} {E:Prop}
theorem oj (hw:Region.wanted o (yielded ops a.tmps) =true)(l c:Operand)(t e:TypeId)(ho:o.op= .makeSlice t l c)(n:Nat)(hl:a.eval l= .int .i64 n)(hc:a.eval c= .int .i64 n)(ht:P.underlying t=some (.slice e))(i0:TypeInfo)(hI:Hid (P.info? e=some i0/\i0.zero=some (.int .u8 0)/\i0.size=1/\i0.bytes=1))(hn:n<=140737488355328)
 (h:∀w',br w' w.heap.size e (ao n)->Below w.heap.size w w'->K (a.put o.dst (.slice (some ⟨w.heap.size,0,none⟩) n n)) w') :
 if Region.wanted o (yielded ops a.tmps) =true then Oper.wp P o a w K Q else E:=by
 rw[if_pos hw];obtain⟨w',hr,h1,h2⟩:=qc (P:=P) w t e ht i0 hI n hn;unfold Oper.wp;simp only[execOp,ho,hl,hc,hr,Result.andThen_ok,Sem.run_bind,Sem.run_pure];exact h w' h1 h2
end
theorem tD:nN [] =ao 1024/\ (cA []).2=0:=by
 have h: (cA ([] :List Nd)).2=0:=by decide
 refine⟨?_,h⟩;unfold nN;rw[if_pos h];have:gQ ([] :List Nd) = [] :=by unfold gQ;rw[if_pos h];rfl
 rw[this];rfl
def wE (B0:Nat) :Prop:=∀a n cap ys w,bA w a n cap ys->n<=1000-> (dJ (gQ (ax ys))).length<=70000000->MV B0 w->Calls Tryz.prog 14 #[.slice a n cap] w (eO (nN (ax ys)) (cA (ax ys)).2 w)
def Cd (B0:Nat) :Prop:=∀w,MV B0 w->Calls Tryz.prog 14 #[.slice none 0 0] w (eO (ao 1024) 0 w)
def tw (B0:Nat) :Prop:=∀a w,BytesIn w a (ao 1025)->MV B0 w->Calls Tryz.prog 21 #[.slice a 1025 1025] w fun e w'=>uO ⟨[],1024,18⟩ e w'/\Below w.heap.size w w'
theorem wE.nil {B0:Nat}(h:wE B0) :Cd B0:=fun w V=>by
 have:=h none 0 0 [] w ⟨rfl,aj,Nat.zero_le _,.inl rfl,fun _ h=>by cases h⟩ (Nat.zero_le _) (by show(dJ (gQ [])).length<=_;have:gQ ([] :List Nd) = [] :=by{unfold gQ;rw[if_pos tD.2];rfl};rw[this];decide) V;have e0:nN (ax []) =ao 1024/\ (cA (ax [])).2=0:=tD;rw[e0.1,e0.2]at this;exact this
theorem dm {B0:Nat}(w:World)(HE:Cd B0)(HD:tw B0)(V:MV B0 w) :Calls Tryz.prog 13 #[] w fun e w'=>e= .returned (.bool true)/\Below w.heap.size w w':=by
 obtain⟨i0,HI⟩:=dx (P:=Tryz.prog) (e:=5) (by kernel_rfl);have EC:=aa (HE w V);have HDD:=aa HD;have HV:=aa V;clear HE HD V;obtain⟨Z0,hZ0⟩:=named (ao 1024);obtain⟨Z1,hZ1⟩:=named (ao 1025);rw[<- hZ0.out]at EC;have L0:Hid (Z0.length=1024) :=by show _=_;rw[hZ0.out,aB]
 have L1:Hid (Z1.length=1025) :=by show _=_;rw[hZ1.out,aB]
 go_enter Tryz.func13,Tryz.ntmps13;go_wp2_with fail;refine EC.out.mono ?_;rintro e w1 ⟨b1,n1,c1,rfl,l1,lc1,lm1,i1,_,bb1⟩;obtain rfl:n1=1024:=l1.symm.trans L0.out;have I1:=aa i1;have B1:=aa bb1;have V1:=aa (HV.out.go bb1);clear l1 lc1 lm1 i1 bb1 EC;go_wp2_with (first| (refine cU rfl _ _ 25 5 rfl Tryz.underlying25 i0 HI 1025 rfl rfl (by decide) ?_;intro w2 h2 b2;have H2:=aa h2;have B2:=aa b2;clear h2 b2));rw[<- hZ1.out]at H2;have V2:=aa (V1.out.go B2.out);have hs1:=B1.out.size;refine(HDD.out (some ⟨w1.heap.size,0,none⟩) w2 (by rw[<- hZ1.out];exact H2.out.bytes) V2.out).mono ?_;rintro e w3 ⟨⟨a3,n3,c3,z3,rfl,_,_⟩,b3⟩;have B3:=aa (B1.out.trans ((B2.out.trans (b3.mono B2.out.size)).mono B1.out.size));have I3:=aa (I1.out.below (B2.out.trans (b3.mono B2.out.size)));have L3:=aa (Nat.le_trans B2.out.size b3.size);clear b3;have CV:Hid (∀wS,Below w3.heap.size w3 wS-> (convert 25 9 (.slice b1 1024 c1)).run Tryz.prog wS= .ok (.string (strOfNums Z0)) wS) :=fun wS h=>aQ Tryz.underlying25 Tryz.underlying5 Tryz.underlying9 (I3.out.below h) 1024 c1 L0.out;go_wp2_with fail;refine wp_region_held_drew (S:= (fun wS=>Below w3.heap.size w3 wS/\ (convert 25 9 (.slice b1 1024 c1)).run Tryz.prog wS= .ok (.string (strOfNums Z0)) wS)) (by kernel_rfl) (⟨au.drew,CV.out _ au.drew⟩) (fun hHeld=>?_);refine aY 0 (h:=aY 1 (h:=aY 2 (h:=aY 3 (h:=?_))));simp only[Act.put,bw,bx,bz];refine tk 4 ?_;simp only[Act.put,bw,bx,bz];refine rd 5 (fun K hK=>?_);refine oj (by rfl) _ _ 25 5 rfl 1024 rfl rfl Tryz.underlying25 i0 HI (by decide) ?_;intro w4 h4 b4;have B4:Hid (Below w3.heap.size w3 w4) :=ar au.drew b4;have KP:Hid ((fun wS=>Below w3.heap.size w3 wS/\ (convert 25 9 (.slice b1 1024 c1)).run Tryz.prog wS= .ok (.string (strOfNums Z0)) wS) w4) :=⟨B4.out,CV.out _ B4.out⟩
 have C2:Hid (∀wS,Below w4.heap.size w4 wS-> (convert 25 9 (.slice (some ⟨w3.heap.size,0,none⟩) 1024 1024)).run Tryz.prog wS= .ok (.string (strOfNums Z0)) wS) :=fun wS h=>by
  rw[<- hZ0.out]at h4;exact aQ Tryz.underlying25 Tryz.underlying5 Tryz.underlying9 ((br.bytes (h4:br w4 w3.heap.size _ _)).below h) 1024 1024 L0.out
 clear h4 b4;refine hK.out _ _ KP.out (fun hHeld=>?_);clear hK K
 (try simp only[Act.put,bw,bx,bz])
 refine ay (S2:= (fun wS=> (fun wS=>Below w3.heap.size w3 wS/\ (convert 25 9 (.slice b1 1024 c1)).run Tryz.prog wS= .ok (.string (strOfNums Z0)) wS) wS/\ (convert 25 9 (.slice (some ⟨w3.heap.size,0,none⟩) 1024 1024)).run Tryz.prog wS= .ok (.string (strOfNums Z0)) wS)) (fun _ h=>h.1) ?_;have hHeld: (fun wS=> (fun wS=>Below w3.heap.size w3 wS/\ (convert 25 9 (.slice b1 1024 c1)).run Tryz.prog wS= .ok (.string (strOfNums Z0)) wS) wS/\ (convert 25 9 (.slice (some ⟨w3.heap.size,0,none⟩) 1024 1024)).run Tryz.prog wS= .ok (.string (strOfNums Z0)) wS) w4:=⟨KP.out,C2.out _ au⟩;refine aY 6 (h:=aY 7 (h:=aY 8 (h:=aY 9 (h:=?_))));simp only[Act.put,bw,bx,bz];refine aY 10 (h:=aY 11 (h:=aY 12 (h:=aY 13 (h:=?_))));simp only[Act.put,bw,bx,bz];refine aY 14 (h:=aY 15 (h:=aY 16 (h:=?_)));simp only[Act.put,bw,bx,bz];refine tk 17 ?_;simp only[Act.put,bw,bx];refine wpAnyH_done (by kernel_rfl) ?_ _;go_wp2_with fail;go_ret;exact⟨rfl,B3.out.trans (B4.out.mono (Nat.le_trans (Nat.le_trans B1.out.size aj) L3.out))⟩
end Arc
namespace Arc
open Go.Lib Go.RowKit Go.Proofs.YtcjagakckffkiaaGreatDoor.Fit Pnm Tre Flt fQ Reb
theorem Dh {l:List Nd}{x:Mb}(hx:x∈gQ l) :dn x.e=0:=by
 by_cases h: (cA l).2=0
 ·have hc:=lS (lU.mp h);unfold gQ at hx;rw[if_pos h]at hx;obtain⟨i,hi,rfl⟩:=List.getElem_of_mem hx;have hi':i< (canon l).length:=by rwa [fi]at hi
  have:=iS hi';rw[List.getElem?_eq_getElem hi]at this;rw[Option.some.inj this];exact hc.ck hi'
 ·unfold gQ at hx;rw[if_neg h]at hx
  cases hx
theorem Ee {l:List Nd}{x:Mb}(hx:x∈gQ l) :x.d= []\/∃y∈l,x.d=y.d:=by
 by_cases h: (cA l).2=0
 ·unfold gQ at hx;rw[if_pos h]at hx;obtain⟨i,hi,rfl⟩:=List.getElem_of_mem hx;have hi':i< (canon l).length:=by rwa [fi]at hi
  have hm:=iS hi';rw[List.getElem?_eq_getElem hi]at hm;rw[Option.some.inj hm]
  cases hf:fr (canon l) i (nd (canon l) i).c with
  |some y=>rw[eJ hf];exact .inl rfl
  |none=>
   rw[dz hf];refine .inr ?_
   have hn:nd (canon l) i∈canon l:=by
    have:nd (canon l) i= (canon l)[i] :=by unfold nd;rw[List.getElem?_eq_getElem hi'];rfl
    rw[this];exact List.getElem_mem hi'
   obtain⟨z,hz,he⟩:=List.mem_map.mp (show nd (canon l) i∈(eD l).map (ka (eD l))from hn);refine⟨z,(jR l).mem_iff.mp hz,?_⟩;show(nd (canon l) i).d=z.d;rw[<- he];rfl
 ·unfold gQ at hx;rw[if_neg h]at hx
  cases hx
theorem uo (l:List Nd) : (gQ l).length<=l.length:=by
 by_cases h: (cA l).2=0
 ·unfold gQ;rw[if_pos h,fi,ov];exact aj
 ·unfold gQ;rw[if_neg h];exact Nat.zero_le _
theorem Eg {x:Mb}(h:dn x.e=0)(hd:x.d.length<=70000) : (si x).length<=400000:=by
 obtain⟨h1,h2⟩:=iO h;have h3:=mu h;have h4:=tF (Pxr.fJ (jK x.e)).length;have h5:=ij x.d.length;have h6:=tF x.d.length;rw[ku]
 split at h2<;>omega
theorem wH:∀{A:List Mb},(∀x∈A,dn x.e=0/\x.d.length<=70000)-> (dJ A).length<=A.length*400000
 | [],_=>Nat.zero_le _
 |x::A,h=>by
  have h1:=Eg (h x List.mem_cons_self).1 (h x List.mem_cons_self).2;have h2:=wH fun y hy=>h y (List.mem_cons_of_mem x hy);have e:dJ (x::A) =si x++dJ A:=by unfold dJ;rw[List.flatMap_cons]
  rw[e,List.length_append,List.length_cons,Nat.succ_mul];omega
theorem wI {l:List Nd}(hn:l.length<=40)(hd:∀y∈l,y.d.length<=70000) : (dJ (gQ l)).length<=16000000:=by
 have h1:=wH (A:=gQ l) fun x hx=>⟨Dh hx,by
  rcases Ee hx with h|⟨y,hy,h⟩
  ·rw[h];exact Nat.zero_le _
  ·rw[h];exact hd y hy⟩
 have h2:=uo l;have h3: (gQ l).length*400000<=40*400000:=Nat.mul_le_mul_right _ (Nat.le_trans h2 hn);omega
end Arc
namespace Tre
open Go.RowKit Go.Proofs.YtcjagakckffkiaaGreatDoor.Fit Pnm
theorem oE (a:Option Addr)(n cap:Nat)(ys:List aP)(w:World)(ha:bA w a n cap ys) :
 Calls Tryz.prog 12 #[.slice a n cap] w fun e w'=>∃R:Int,e= .returned (.int .i64 R)/\ (R=1\/ (R=0/\n<=40/\∀y∈ys,y.n.p.size<=70000/\y.n.t.size<=70000/\y.n.d.length<=70000))/\Below w.heap.size w w':=by
 have HA:=aa ha;have NZ:=aa zH;have NO:=aa zF;have HN:Hid (ys.length=n) :=ha.n;have hn:n<=maxLen:=Nat.le_trans ha.c ha.m;unfold maxLen at hn;clear ha;by_cases h40: (40:Int) <n
 ·go_enter Tryz.func12,Tryz.ntmps12;go_wp2_with fail;go_ret;exact⟨1,rfl,.inl rfl,au⟩
 ·have N40:Hid (n<=40) :=by show _<=_;omega
  go_enter Tryz.func12,Tryz.ntmps12;go_wp2_with fail;go_loopw [3,11] (fun s i wr=>∃j S:Nat,s= .int .i64 S/\i= .int .i64 j/\j<=n/\S<=70000*j/\ (∀k,k<j-> (nd (ax ys) k).p.size<=70000/\ (nd (ax ys) k).t.size<=70000/\ (nd (ax ys) k).d.length<=70000)/\Below w.heap.size w wr) (fun _ i _=>n- (intOf i).toNat)
  case atStart=>exact⟨0,0,rfl,rfl,Nat.zero_le _,Nat.zero_le _,fun k hk=>absurd hk (Nat.not_lt_zero k),au⟩
  case round=>
   obtain⟨j,S,rfl,rfl,hj,hs,hp,hB⟩:=hrel;have HP:=aa hp;have HB:=aa hB;have S1: (S:Int)<=2800000:=by have:=N40.out;omega
   have HS:=aa hs;clear hp hB hs;by_cases hjn:j<n
   ·obtain⟨b,off,y,rfl,hb,hy,hf,hat⟩:=HA.out.get j hjn;obtain⟨c0,c1,c2,c3,c4,c5⟩:= (hat.below HB.out hb).c hy;have EY:Hid (nd (ax ys) j=y.n) :=fS hy;have hp:=hf.p;have ht:=hf.t;have hd:=hf.l;clear hat hf hy hb;obtain⟨⟨k,p,m,t,d,c⟩,x,xc⟩:=y;dsimp only at hp ht hd;obtain⟨L,hL⟩:=named d.length;have c4':wr.cell? ⟨b,off+j*6+4,none⟩=some (.slice x L xc) :=by rw[hL.out];exact c4
    rw[<- hL.out]at hd;clear c4;have j1: (j:Int) <n:=by omega
    have hpi: (p.size:Int)<=140737488355328:=by omega
    have hti: (t.size:Int)<=140737488355328:=by omega
    have hdi: (L:Int)<=140737488355328:=by omega
    by_cases h7: (70000:Int) < (p.size:Int) +t.size+L
    ·clear HP EY hL hp ht hd;go_wp2_with (first| (refine ag rfl 77 rfl (cg 0 emp 0 emp none 0 0 0) NZ.out ?_;intro w2 g2 b2;have G2:=aa g2;have B2:=aa (ar HB.out b2);clear g2 b2 c0 c1 c2 c3 c4' c5) | (refine ae rfl 77 _ _ rfl wr.heap.size rfl (cg k p m t x L xc c) (cg 0 emp 0 emp none 0 0 0) rfl 77 G2.out NO.out.2 rfl (dK _ _ _ _ _ _ _ _) ?_;intro w3 g3 t3;have B3:=aa (B2.out.trans (t3.below HB.out.size));have c1:=g3.get 1 rfl;have c3:=g3.get 3 rfl;have c4:=g3.get 4 rfl;clear g3 t3));go_ret;exact⟨1,rfl,.inl rfl,B3.out⟩
    ·have H7:Hid (p.size+t.size+L<=70000) :=by show _<=_;omega
     have h7': (p.size:Int) +t.size+L<=70000:=by omega
     clear hp ht hd;go_wp2_with (first| (refine ag rfl 77 rfl (cg 0 emp 0 emp none 0 0 0) NZ.out ?_;intro w2 g2 b2;have G2:=aa g2;have B2:=aa (ar HB.out b2);clear g2 b2 c0 c1 c2 c3 c4' c5) | (refine ae rfl 77 _ _ rfl wr.heap.size rfl (cg k p m t x L xc c) (cg 0 emp 0 emp none 0 0 0) rfl 77 G2.out NO.out.2 rfl (dK _ _ _ _ _ _ _ _) ?_;intro w3 g3 t3;have B3:=aa (B2.out.trans (t3.below HB.out.size));have c1:=g3.get 1 rfl;have c3:=g3.get 3 rfl;have c4:=g3.get 4 rfl;clear g3 t3))
     go_round
     case rel=>exact⟨j+1,S+ (p.size+t.size+L),by go_num,by go_num,by omega,by have:=H7.out;have:=HS.out;omega,fun k'' hk=>by
      by_cases h:k''<j
      ·exact HP.out k'' h
      ·obtain rfl:k''=j:=by omega
       rw[EY.out];have:=H7.out;have:=hL.out;dsimp only;omega,B3.out⟩
     case measure=>simp[intOf];omega
   ·obtain rfl:j=n:=by omega
    by_cases h1: (100000:Int) <S
    ·go_wp2_with fail;go_ret;exact⟨1,rfl,.inl rfl,HB.out⟩
    ·go_wp2_with fail;go_ret
     exact⟨0,rfl,.inr ⟨rfl,N40.out,fun y hy=>by
      obtain⟨i,hi,rfl⟩:=List.getElem_of_mem hy;have:=HP.out i (by rw[<- HN.out];exact hi)
      rwa [fS (List.getElem?_eq_getElem hi)]at this⟩,HB.out⟩
end Tre
namespace Arc
open Go.Lib Go.RowKit Go.Proofs.YtcjagakckffkiaaGreatDoor.Fit Pxr Pnm Tre Flt fQ Reb
theorem Ea {B0:Nat}(HE:wE B0)(HD:tw B0)(a:Option Addr)(n cap:Nat)(ys:List aP)(w:World)(V:MV B0 w)(ha:bA w a n cap ys) :
 Calls Tryz.prog 3 #[.slice a n cap] w fun e w'=>e= .returned (.bool true)/\Below w.heap.size w w':=by
 have HA:=aa ha;have HV:=aa V;have HEE:=aa HE;have HE0:=aa HE.nil;have HDD:=aa HD;have LG:=aa (oE a n cap ys w ha);have HN:Hid (ys.length=n) :=ha.n;clear ha V HE HD;go_enter Tryz.func3,Tryz.ntmps3;go_wp2_with fail;refine LG.out.mono ?_;rintro e w1 ⟨R,rfl,hR,b1⟩;have B1:=aa b1;have V1:=aa (HV.out.go b1);have A1:=aa (HA.out.below b1);clear b1 LG;rcases hR with rfl|⟨rfl,hn,hy⟩
 ·go_wp2_with fail;refine(dm w1 HE0.out HDD.out V1.out).mono ?_;rintro e w2 ⟨rfl,b2⟩;have B2:=aa (B1.out.trans (b2.mono B1.out.size));clear b2;go_wp2_with fail;go_ret;exact⟨rfl,B2.out⟩
 ·have BD:Hid ((dJ (gQ (ax ys))).length<=70000000) :=Nat.le_trans (wI (l:=ax ys) (by rw[aV,HN.out];exact hn) (fun y h=>by
   unfold ax at h;obtain⟨u,hu,rfl⟩:=List.mem_map.mp h;exact(hy u hu).2.2)) (by decide)
  have N40:Hid (n<=1000) :=Nat.le_trans hn (by decide);clear hn hy;obtain⟨Z,hZ⟩:=named (nN (ax ys));obtain⟨X,hX⟩:=named (cA (ax ys)).2;have EC:=aa (HEE.out a n cap ys w1 A1.out N40.out BD.out V1.out);rw[<- hZ.out,<- hX.out]at EC;go_wp2_with fail;refine EC.out.mono ?_;rintro e w2 ⟨b2,n2,c2,rfl,l2,_,_,i2,_,bb2⟩;have I2:=aa i2;have L2:=aa l2;have B2:=aa bb2;have V2:=aa (V1.out.go bb2);have A2:=aa (A1.out.below bb2);clear i2 l2 bb2 EC;have RC:=aa (rE a n cap ys w2 A2.out N40.out (Nat.le_trans BD.out (by decide)));rw[<- hZ.out,<- hX.out]at RC;go_wp2_with fail;refine RC.out.mono ?_;rintro e w3 ⟨b3,n3,c3,rfl,l3,_,_,i3,_,bb3⟩;have I3:=aa i3;have L3:=aa l3;have B3:=aa (B1.out.trans ((B2.out.trans (bb3.mono B2.out.size)).mono B1.out.size));have V3:=aa (V2.out.go bb3);have J3:=aa (I2.out.below bb3);clear i3 l3 bb3 RC;have AL:=aa (dm w3 HE0.out HDD.out V3.out);go_wp2_with fail;refine AL.out.mono ?_;rintro e w4 ⟨rfl,b4⟩;have B4:=aa (B3.out.trans (b4.mono B3.out.size));have s1:=aQ (P:=Tryz.prog) Tryz.underlying25 Tryz.underlying5 Tryz.underlying9 (J3.out.below b4) n2 c2 L2.out;have s2:=aQ (P:=Tryz.prog) Tryz.underlying25 Tryz.underlying5 Tryz.underlying9 (I3.out.below b4) n3 c3 L3.out;clear b4;go_wp2_with fail;go_ret;exact⟨rfl,B4.out⟩
def tz (F:Int)(P ys:List Int)(er:Int) :Prop:= (er=0/\ys=P/\ (0<=F-> (P.length:Int)<=F))\/ (er=11/\0<=F/\F< (P.length:Int)/\ys=P.take F.toNat)
def mh (F:Int)(P:List Int) :Prop:=0<=F/\F< (P.length:Int)
instance (F:Int) (P:List Int) :Decidable (mh F P) :=by unfold mh;infer_instance
def vh (F:Int)(P:List Int) :Int:=if mh F P then 11 else 0
def wk (F:Int)(P:List Int) :List Int:=if mh F P then P.take F.toNat else P
theorem tz.nil (F:Int) :tz F [] [] 0:= .inl ⟨rfl,rfl,fun h=>h⟩
theorem tz.stop {F:Int}{P ys:List Int}{er:Int}(h:tz F P ys er)(h0:er≠0)(Q:List Int) :tz F (P++Q) ys er:=by
 rcases h with h|⟨h1,h2,h3,h4⟩
 ·exact absurd h.1 h0
 ·refine .inr ⟨h1,h2,by rw[List.length_append];omega,?_⟩;rw[h4,List.take_append_of_le_length (by omega)]
theorem tz.zero {F:Int}{P ys:List Int}(h:tz F P ys 0) :ys=P/\ (0<=F-> (P.length:Int)<=F) :=by
 rcases h with h|h
 ·exact h.2
 ·exact absurd h.1 (by decide)
theorem tz.go {F:Int}{P:List Int}(h:0<=F-> (P.length:Int)<=F)(Q:List Int)(m:Nat)(hm:Q.length=m) :tz F (P++Q) (P++Q.take (df F P.length m)) (eg F P.length m)/\ (P++Q.take (df F P.length m)).length=P.length+df F P.length m:=by
 subst hm;have hle:= (zK F P.length Q.length h).1;constructor
 ·unfold df eg;by_cases hf:0<=F/\F- (P.length:Int) <Q.length
  ·have:=h hf.1;rw[if_pos hf,if_pos hf];refine .inr ⟨rfl,hf.1,by rw[List.length_append];have:=hf.2;omega,?_⟩;rw[List.take_append,List.take_of_length_le (l:=P) (by omega)]
   congr 2
   omega
  ·rw[if_neg hf,if_neg hf];refine .inl ⟨rfl,by rw[List.take_length],fun h0=>?_⟩;rw[List.length_append];have:=h h0;omega
 ·rw[List.length_append,List.length_take];omega
theorem tz.fin {F:Int}{P ys:List Int}{er:Int}(h:tz F P ys er) :er=vh F P/\ys=wk F P:=by
 unfold vh wk;rcases h with⟨h1,h2,h3⟩|⟨h1,h2,h3,h4⟩
 ·have hn:¬mh F P:=fun c=>by have:=h3 c.1;have:=c.2;omega
  rw[if_neg hn,if_neg hn];exact⟨h1,h2⟩
 ·rw[if_pos ⟨h2,h3⟩,if_pos ⟨h2,h3⟩];exact⟨h1,h4⟩
theorem tQ (P:List Int) :vh (-1) P=0/\wk (-1) P=P:=by
 have hn:¬mh (-1) P:=fun c=>by have:=c.1;omega
 unfold vh wk;rw[if_neg hn,if_neg hn];exact⟨rfl,rfl⟩
end Arc
section
open Go.RowKit
section
variable {P:Program} {w:World} {ops:Array Oper} {rest:List Oper} {o:Oper} {a:Act} {Q:Exit->Act->World->Prop}
theorem kL (hgd:o.guard=none)(T:TypeId)(ho:o.op= .alloc T)(v:Value)(hv:v.oneCell'=true)(hz: (P.info? T).map (·.zero) =some (some v))
 (K:∀w',an w' w.heap.size T [v]->Below w.heap.size w w'->wpList P ops Q rest (a.put o.dst (.pointer (some ⟨w.heap.size,0,none⟩))) w') :wpList P ops Q (o::rest) a w:=by
 refine wpList_plain hgd fun K' hK=>?_;have hc:v.cells= #[v] :=by cases v<;>first|rfl| (simp[Value.oneCell']at hv)
 cases hq:P.info? T with
 |none=>simp[hq]at hz
 |some i=>
  simp[hq]at hz;unfold Oper.wp;simp[execOp,ho,Instr.alloc,zeroValue,typeInfo,hq,hz,newVar,newRow,Result.andThen,hc];exact hK _ _ (K _ (heap_alloc_new w _) (au.alloc aj _))
theorem nL (hgd:o.guard=none)(T:TypeId)(x:Operand)(ho:o.op= .box T x)(v:Value)(hv:v.oneCell'=true)(hx:a.eval x=v)
 (K:∀w',an w' w.heap.size T [v]->Below w.heap.size w w'->wpList P ops Q rest (a.put o.dst (.pointer (some ⟨w.heap.size,0,none⟩))) w') :wpList P ops Q (o::rest) a w:=by
 refine wpList_plain hgd fun K' hK=>?_;have hc:v.cells= #[v] :=by cases v<;>first|rfl| (simp[Value.oneCell']at hv)
 unfold Oper.wp;simp[execOp,ho,hx,Instr.box,newVar,newRow,Result.andThen,hc];exact hK _ _ (K _ (heap_alloc_new w _) (au.alloc aj _))
end
end
namespace Flt
open Go.RowKit Go.MapKept Go.Proofs.YtcjagakckffkiaaGreatDoor.Fit Pnm Tre
def ph (w:World)(l:List Nd)(e:Ending)(w':World) :Prop:=
 ∃b k c us X1 X2,e= .returned (.tuple #[.slice b k c,.int .i64 X1,.int .i64 X2])/\X1= (cA l).1/\X2= (cA l).2/\dF w' b k c us/\wz us=gQ l/\Below w.heap.size w w'/\ (∀x,b=some x->w.heap.size<=x.block)/\∀u∈us,∀x,u.a=some x->w.heap.size<=x.block
theorem ph.bad {w w':World}{l:List Nd}{X1 X2:Int}(h1:X1= (cA l).1)(h2:X2= (cA l).2)(h0:X2≠0)(hb:Below w.heap.size w w') :ph w l (.returned (.tuple #[.slice none 0 0,.int .i64 X1,.int .i64 X2])) w':=
 ⟨none,0,0,[],X1,X2,rfl,h1,h2,⟨rfl,aj,Nat.zero_le _,.inl rfl,fun _ h=>by cases h⟩,by unfold gQ;rw[if_neg (by rw[<- h2];exact h0)];rfl,hb,fun x hx=> (by cases hx),fun _ h=> (by cases h)⟩
theorem yp (a:Option Addr)(n cap:Nat)(ys:List aP)(w:World)(V:dS w)(ha:bA w a n cap ys)(h40:n<=1000) :Calls Tryz.prog 29 #[.slice a n cap] w (ph w (ax ys)) :=by
 have HA:=aa ha;have NZ:=aa zH;have NO:=aa zF;have MO:=aa Ef;have H40:=aa h40;have n40: (n:Int)<=1000:=by omega
 have HN:Hid ((ax ys).length=n) :=by show _=_;rw[aV];exact ha.n
 obtain⟨X1,hX1⟩:=named (cA (ax ys)).1;obtain⟨X2,hX2⟩:=named (cA (ax ys)).2
 have PC:Hid (Calls Tryz.prog 28 #[.slice a n cap] w fun e w''=>e= .returned (.tuple #[.int .i64 X1,.int .i64 X2])/\Below w.heap.size w w'') :=by
  show Calls _ _ _ _ _;rw[hX1.out,hX2.out];exact yb a n cap ys w V ha
 have ZS:Hid ((Tryz.prog.info? 9).map (·.zero) =some (some (.string emp))) :=by show _=_;kernel_rfl
 have UM:=aa Tryz.underlying116;have UK:=aa Tryz.underlying3;obtain⟨i0,HI0⟩:=lH (P:=Tryz.prog) (e:=70) (z:= .agg (iR 0 emp 0 emp 0 none 0 0).toArray) (s:=6) (b:=80) (by kernel_rfl);clear V ha h40;go_enter Tryz.func29,Tryz.ntmps29;go_wp2_with fail;refine PC.out.mono ?_;rintro e w1 ⟨rfl,b1⟩;have B1:=aa b1;clear b1 PC;by_cases hx:¬X2=0
 ·have nx: (X2 !=0) =true:=by simpa using hx
  go_wp2_with fail;go_ret3;exact .bad hX1.out hX2.out hx B1.out
 obtain rfl:X2=0:=Decidable.not_not.mp hx;clear hx;have VAL:Hid (wj (ax ys)) :=lU.mp hX2.out.symm;obtain rfl:X1= (n:Int) :=by rw[hX1.out,tK VAL.out,HN.out]
 go_wp2_with (first| (refine lC rfl _ _ 59 70 rfl Tryz.underlying59 i0 HI0 n rfl rfl (by have:=H40.out;omega) ?_;intro w2 g2 b2;have G2:=aa g2;have B2:=aa (ar B1.out b2);clear g2 b2) | (refine bo rfl _ rfl (.int .i64) ?_;intro w3 m3 b3;have M3:=aa m3;have G3:=aa (G2.out.below b3 G2.out.lt);have GM:=aa G2.out.lt;have B3:=aa (ar B2.out b3);clear m3 b3));refine(uW a n cap ys w3 (HA.out.below B3.out) H40.out).mono ?_;rintro e w4 ⟨c,cc,zs,rfl,hz,ez,hfr,hown,b4⟩;obtain⟨g,hg⟩:∃g,g=w1.heap.size:=⟨_,rfl⟩;obtain⟨m,hm⟩:∃m,m=w2.heap.size:=⟨_,rfl⟩;obtain⟨C,hC⟩:∃C,C=canon (ax ys) :=⟨_,rfl⟩;rw[<- hC]at ez;rw[<- hg]at G3 GM⊢;rw[<- hm]at M3 GM⊢;have CAN:Hid (Can C) :=by show Can C;rw[hC];exact lS VAL.out
 have CN:Hid (C.length=n) :=by show _=_;rw[hC,ov,HN.out]
 have HC:=aa hC;have G4:=aa (G3.out.below b4 G3.out.lt);have M4:=aa (M3.out.below b4 M3.out.lt);have GW:Hid (w.heap.size<=g) :=by have:=B1.out.size;show _<=_;omega
 have MW:Hid (w.heap.size<=m) :=by have:=GW.out;have:=GM.out;show _<=_;omega
 have ML:Hid (m<w3.heap.size) :=M3.out.lt;have GL:Hid (g<w3.heap.size) :=G3.out.lt;have B4:=aa (ar B3.out b4);have HZ:=aa hz;have EZ:=aa ez;have FR:=aa hfr;have OW:=aa hown
 have SD:Hid (∀z∈zs,∀x,z.a=some x->¬(x.block=g\/x.block=m\/x.block<w.heap.size)) :=fun z hz' x hx=>by
  have:=Db (hfr z hz') x hx;have:=ML.out;have:=GL.out;have:=GW.out;omega
 have SC:Hid (∀x,c=some x->¬(x.block=g\/x.block=m)) :=fun x hx=>by
  have:= (hown x hx).1;have:=ML.out;have:=GL.out;omega
 have ncc: (n:Int)<=cc:=by have:=hz.c;omega
 clear hg hm hC hz ez hfr hown b4 G2 G3 M3 B1 B2 FR OW;go_wp2_with fail;go_loopw [28] (fun i wr=>∃(j N:Nat) (us:List dh) (F:Value->Option Value),i= .int .i64 j/\j<=n/\Rw (fun k=>k=g\/k=m\/k<w.heap.size) C w4 n us j/\an wr g 70 (aF us)/\dG wr m (.int .i64) N F/\wC F C j/\aZ (fun k=>k=g\/k=m) w4 wr) (fun i _=>n- (intOf i).toNat)
 case atStart=>exact⟨0,0,_,_,rfl,Nat.zero_le _,⟨by simp,fun i hi=>absurd hi (Nat.not_lt_zero i)⟩,G4.out,M4.out,wC.zero C,aZ.refl _ _⟩
 case round=>
  obtain⟨j,N,us,F,rfl,hj,hrw,hg,hm,hl,ho⟩:=hrel;by_cases hjn:j<n
  ·obtain⟨b,off,z,rfl,hb,hz,hf,hat⟩:=HZ.out.get j hjn;have HRW:=aa hrw;have HG:=aa hg;have HM:=aa hm;have HL:=aa hl;have HO:=aa ho;have HF:=aa hf;have JN:=aa hjn;have JC:Hid (j<C.length) :=by show _<_;rw[CN.out];exact hjn
   have UL:Hid (j<us.length) :=by show _<_;rw[hrw.len];exact hjn
   have ZC:Hid (nd C j=z.n) :=by
    show _=_;rw[<- EZ.out];exact fS hz
   obtain⟨c0,c1,c2,c3,c4,c5⟩:= (hat.block (ho.block b hb (SC.out _ rfl))).c hz;have SZ:=aa (SD.out z (List.mem_of_getElem? hz));have FS:Hid (F (.int .i64 z.n.c) = (fr C j (nd C j).c).map fun y=> .string y.p) :=by show _=_;rw[hl,ZC.out]
   clear hrw hg hm hl ho hf hat hz hb hjn hj;obtain⟨⟨k,p,mo,t,d,cl⟩,x,xc⟩:=z;obtain⟨L,hL⟩:=named d.length;have c4':wr.cell? ⟨b,off+j*6+4,none⟩=some (.slice x L xc) :=by rw[hL.out];exact c4
   clear c4;have j1: (j:Int) <n:=by have:=JN.out;omega
   have WG:=aa HG.out.lt;have WM:=aa HM.out.lt
   cases hfr:fr C j (nd C j).c with
   |some y=>
    have PY:Hid (y.p.size<=140737488355328) :=by
     obtain⟨r,hr,rfl,_⟩:=lF (Nat.le_of_lt JC.out) hfr;have hr':r< (ax zs).length:=by rw[EZ.out];have:=JC.out;omega
     rw[aV]at hr';show _<=_;rw[<- EZ.out,fS (List.getElem?_eq_getElem hr')];exact(HZ.out.s _ (List.getElem_mem hr')).p
    have EL:=aa (Df (S:=fun k=>k=g\/k=m\/k<w.heap.size) ZC.out hfr HF.out PY.out);have LS:=aa (HL.out.stay JC.out (.inl ⟨y,hfr⟩));have hF:F (.int .i64 cl) =some (.string y.p) :=by have:=FS.out;rw[hfr]at this;exact this
    obtain⟨q,hq⟩:∃q,q=y.p:=⟨_,rfl⟩;rw[<- hq]at hF EL;have HFF:=aa hF;clear hF hq hfr FS;go_wp2_with (first| (refine ag rfl 77 rfl (cg 0 emp 0 emp none 0 0 0) NZ.out ?_;intro w5 g5 b5;have G5:=aa g5;have HG5:=aa (HG.out.below b5 HG.out.lt);have HM5:=aa (HM.out.below b5 HM.out.lt);have B5:=aa b5;clear g5 b5 c0 c1 c2 c3 c4' c5) | (refine ae rfl 77 _ _ rfl wr.heap.size rfl (cg k p mo t x L xc cl) (cg 0 emp 0 emp none 0 0 0) rfl 77 G5.out NO.out.2 rfl (dK _ _ _ _ _ _ _ _) ?_;intro w6 g6 t6;have HG6:=aa (HG5.out.bH t6 (Nat.ne_of_lt WG.out));have HM6:=aa (HM5.out.block (t6.other (Nat.ne_of_lt WM.out)));have G6:=aa g6;have B6:=aa (B5.out.trans (t6.below aj));have c0:=g6.get 0 rfl;have c1:=g6.get 1 rfl;have c2:=g6.get 2 rfl;have c3:=g6.get 3 rfl;have c4:=g6.get 4 rfl;have c5:=g6.get 5 rfl;have q1:= (bE (P:=Tryz.prog) (w:=w6) 116 3 9 UM.out (.int .i64) UK.out (.string emp) ZS.out m N (.int .i64 cl) (show IsKey (.int .i64) (.int .i64 cl)from rfl) F HM6.out).1;rw[HFF.out]at q1;simp only[Option.getD_some,Option.isSome_some]at q1;clear g6 t6));refine(vy k p mo t x L xc cl q w6).mono ?_;rintro e w7 ⟨rfl,b7⟩;have HG7:=aa (HG6.out.below b7 HG6.out.lt);have HM7:=aa (HM6.out.below b7 HM6.out.lt);have G7:=aa (G6.out.below b7 G6.out.lt);have O7:=aa (HO.out.trans (aZ.aW (ar B6.out b7) aj));clear b7 c0 c1 c2 c3 c4 c5;go_wp2_with (first| (refine eX rfl 70 _ _ rfl g _ j rfl (by omega) ⟨⟨⟨3,p,mo,q,0⟩,[]⟩,none,0⟩ rfl MO.out.2 70 us HG7.out UL.out ?_;intro w8 g8 t8;have HG8:=aa g8;have HM8:=aa (HM7.out.block (t8.other (Ne.symm (Nat.ne_of_lt GM.out))));have O8:=aa (O7.out.trans (dU.only (S:=fun k=>k=g\/k=m) t8 (.inl rfl)));have G8:=aa (G7.out.aK t8 (Ne.symm (Nat.ne_of_lt WG.out)));have c0:=G8.out.get 0 rfl;have c1:=G8.out.get 1 rfl;have c5:=G8.out.get 5 rfl;clear g8 t8))
    go_round
    case rel=>exact⟨j+1,N,_,F,by go_num,by have:=JN.out;omega,HRW.out.next JN.out EL.out,HG8.out,HM8.out,LS.out,O8.out⟩
    case measure=>simp[intOf];have:=JN.out;omega
   |none=>
    have EL:=aa (Dn (S:=fun k=>k=g\/k=m\/k<w.heap.size) CAN.out JC.out ZC.out hfr HF.out SZ.out);have hF:F (.int .i64 cl) =none:=by have:=FS.out;rw[hfr]at this;exact this
    have HFF:=aa hF;have eL:Hid ((Value.agg (iR k p mo t L x L xc).toArray) = .agg (jA ⟨⟨⟨k,p,mo,t,d.length⟩,d⟩,x,xc⟩).toArray) :=by show _=_;rw[hL.out]
    by_cases hc:0<cl
    ·have LS:Hid (wC (rZ F (.int .i64 cl) (.string p)) C (j+1)) :=by
      have h:=HL.out.more JC.out hfr (by rw[ZC.out];exact hc);rw[ZC.out]at h;exact h
     clear hF hfr FS;go_wp2_with (first| (refine ag rfl 77 rfl (cg 0 emp 0 emp none 0 0 0) NZ.out ?_;intro w5 g5 b5;have G5:=aa g5;have HG5:=aa (HG.out.below b5 HG.out.lt);have HM5:=aa (HM.out.below b5 HM.out.lt);have B5:=aa b5;clear g5 b5 c0 c1 c2 c3 c4' c5) | (refine ae rfl 77 _ _ rfl wr.heap.size rfl (cg k p mo t x L xc cl) (cg 0 emp 0 emp none 0 0 0) rfl 77 G5.out NO.out.2 rfl (dK _ _ _ _ _ _ _ _) ?_;intro w6 g6 t6;have HG6:=aa (HG5.out.bH t6 (Nat.ne_of_lt WG.out));have HM6:=aa (HM5.out.block (t6.other (Nat.ne_of_lt WM.out)));have G6:=aa g6;have B6:=aa (B5.out.trans (t6.below aj));have c0:=g6.get 0 rfl;have c1:=g6.get 1 rfl;have c2:=g6.get 2 rfl;have c3:=g6.get 3 rfl;have c4:=g6.get 4 rfl;have c5:=g6.get 5 rfl;have q1:= (bE (P:=Tryz.prog) (w:=w6) 116 3 9 UM.out (.int .i64) UK.out (.string emp) ZS.out m N (.int .i64 cl) (show IsKey (.int .i64) (.int .i64 cl)from rfl) F HM6.out).1;rw[HFF.out]at q1;simp only[Option.getD_none,Option.isSome_none]at q1;clear g6 t6));refine(oH k p mo t x L xc cl w6).mono ?_;rintro e w7 ⟨rfl,b7⟩;have HG7:=aa (HG6.out.below b7 HG6.out.lt);have HM7:=aa (HM6.out.below b7 HM6.out.lt);have G7:=aa (G6.out.below b7 G6.out.lt);have O7:=aa (HO.out.trans (aZ.aW (ar B6.out b7) aj));clear b7 c0 c1 c2 c3 c4 c5;rw[eL.out];go_wp2_with (first| (refine eX rfl 70 _ _ rfl g _ j rfl (by omega) ⟨⟨⟨k,p,mo,t,d.length⟩,d⟩,x,xc⟩ rfl MO.out.2 70 us HG7.out UL.out ?_;intro w8 g8 t8;have HG8:=aa g8;have HM8:=aa (HM7.out.block (t8.other (Ne.symm (Nat.ne_of_lt GM.out))));have O8:=aa (O7.out.trans (dU.only (S:=fun k=>k=g\/k=m) t8 (.inl rfl)));have G8:=aa (G7.out.aK t8 (Ne.symm (Nat.ne_of_lt WG.out)));have c0:=G8.out.get 0 rfl;have c1:=G8.out.get 1 rfl;have c5:=G8.out.get 5 rfl;clear g8 t8) | (refine bT rfl 116 _ _ _ rfl 3 9 UM.out (.int .i64) UK.out m rfl (.int .i64 cl) rfl (show IsKey (.int .i64) (.int .i64 cl)from rfl) (.string p) rfl N F HM8.out ?_;intro w9 m9 t9;rw[HFF.out,if_pos rfl]at m9;have HM9:=aa m9;have HG9:=aa (HG8.out.aK t9 (Nat.ne_of_lt GM.out));have O9:=aa (O8.out.trans (dU.only (S:=fun k=>k=g\/k=m) t9 (.inr rfl)));clear m9 t9))
     go_round
     case rel=>exact⟨j+1,N+1,_,_,by go_num,by have:=JN.out;omega,HRW.out.next JN.out EL.out,HG9.out,HM9.out,LS.out,O9.out⟩
     case measure=>simp[intOf];have:=JN.out;omega
    ·have LS:=aa (HL.out.stay JC.out (.inr (by rw[ZC.out];exact Int.not_lt.mp hc)));clear hF hfr FS;go_wp2_with (first| (refine ag rfl 77 rfl (cg 0 emp 0 emp none 0 0 0) NZ.out ?_;intro w5 g5 b5;have G5:=aa g5;have HG5:=aa (HG.out.below b5 HG.out.lt);have HM5:=aa (HM.out.below b5 HM.out.lt);have B5:=aa b5;clear g5 b5 c0 c1 c2 c3 c4' c5) | (refine ae rfl 77 _ _ rfl wr.heap.size rfl (cg k p mo t x L xc cl) (cg 0 emp 0 emp none 0 0 0) rfl 77 G5.out NO.out.2 rfl (dK _ _ _ _ _ _ _ _) ?_;intro w6 g6 t6;have HG6:=aa (HG5.out.bH t6 (Nat.ne_of_lt WG.out));have HM6:=aa (HM5.out.block (t6.other (Nat.ne_of_lt WM.out)));have G6:=aa g6;have B6:=aa (B5.out.trans (t6.below aj));have c0:=g6.get 0 rfl;have c1:=g6.get 1 rfl;have c2:=g6.get 2 rfl;have c3:=g6.get 3 rfl;have c4:=g6.get 4 rfl;have c5:=g6.get 5 rfl;have q1:= (bE (P:=Tryz.prog) (w:=w6) 116 3 9 UM.out (.int .i64) UK.out (.string emp) ZS.out m N (.int .i64 cl) (show IsKey (.int .i64) (.int .i64 cl)from rfl) F HM6.out).1;rw[HFF.out]at q1;simp only[Option.getD_none,Option.isSome_none]at q1;clear g6 t6));refine(oH k p mo t x L xc cl w6).mono ?_;rintro e w7 ⟨rfl,b7⟩;have HG7:=aa (HG6.out.below b7 HG6.out.lt);have HM7:=aa (HM6.out.below b7 HM6.out.lt);have G7:=aa (G6.out.below b7 G6.out.lt);have O7:=aa (HO.out.trans (aZ.aW (ar B6.out b7) aj));clear b7 c0 c1 c2 c3 c4 c5;rw[eL.out];go_wp2_with (first| (refine eX rfl 70 _ _ rfl g _ j rfl (by omega) ⟨⟨⟨k,p,mo,t,d.length⟩,d⟩,x,xc⟩ rfl MO.out.2 70 us HG7.out UL.out ?_;intro w8 g8 t8;have HG8:=aa g8;have HM8:=aa (HM7.out.block (t8.other (Ne.symm (Nat.ne_of_lt GM.out))));have O8:=aa (O7.out.trans (dU.only (S:=fun k=>k=g\/k=m) t8 (.inl rfl)));have G8:=aa (G7.out.aK t8 (Ne.symm (Nat.ne_of_lt WG.out)));have c0:=G8.out.get 0 rfl;have c1:=G8.out.get 1 rfl;have c5:=G8.out.get 5 rfl;clear g8 t8))
     go_round
     case rel=>exact⟨j+1,N,_,F,by go_num,by have:=JN.out;omega,HRW.out.next JN.out EL.out,HG8.out,HM8.out,LS.out,O8.out⟩
     case measure=>simp[intOf];have:=JN.out;omega
  ·obtain rfl:j=n:=by omega
   obtain⟨d1,d2⟩:=hrw.done CN.out (ho.mono fun k _ h=>h.elim .inl fun h=> .inr (.inl h))
   have d3:∀u∈us,∀x,u.a=some x->w.heap.size<=x.block:=fun u hu x hx=>by
    obtain⟨i,hi,rfl⟩:=List.getElem_of_mem hu;obtain⟨v,h1,h2⟩:=hrw.el i (by rw[<- hrw.len];exact hi);obtain rfl:us[i] =v:=Option.some.inj ((List.getElem?_eq_getElem hi).symm.trans h1);have:=h2.s x hx;omega
   have RES:Hid (ph w (ax ys) (.returned (.tuple #[.slice (some ⟨g,0,none⟩) j j,.int .i64 (j:Int),.int .i64 0])) wr) :=by
    refine⟨_,_,_,us,_,_,rfl,hX1.out,hX2.out,⟨hrw.len,aj,by have:=H40.out;unfold maxLen;omega,.inr ⟨g,0,rfl,hg.lt,.of_cells hg⟩,d2⟩,?_,B4.out.trans (ho.below (fun k hk=>?_) B4.out.size),fun x hx=>by injection hx with hx;rw[<- hx];exact GW.out,d3⟩
    ·unfold gQ;rw[<- hX2.out,if_pos rfl,d1,HC.out]
    ·rcases hk with rfl|rfl
     ·exact GW.out
     ·exact MW.out
   clear hrw hg hm hl ho d1 d2 d3 hjn hj;go_wp2_with fail;go_ret3;exact RES.out
end Flt
end Go.Proofs.YtcjagakckffkiaaGreatDoor
