import Derived.Test.YtcjagakckffkiaaGreatDoorS36
set_option maxHeartbeats 16000000
set_option maxRecDepth 100000
namespace Go.Proofs.YtcjagakckffkiaaGreatDoor
namespace Tre
open Go.RowKit Go.Proofs.YtcjagakckffkiaaGreatDoor.Fit Pnm
theorem yz (a:Option Addr)(n cap:Nat)(ys:List aP)(w:World)(ha:bA w a n cap ys) :
 Calls Tryz.prog 69 #[.slice a n cap] w fun e w'=>e= .returned (.tuple #[.int .i64 (cA (ax ys)).1,.int .i64 (cA (ax ys)).2])/\Below w.heap.size w w':=by
 have HA:=aa ha;have hn:n<=maxLen:=Nat.le_trans ha.c ha.m;have HN:Hid (ys.length=n) :=ha.n;have HL:Hid ((ax ys).length=n) :=by show _=_;rw[aV];exact ha.n
 obtain⟨X1,hX1⟩:=named (cA (ax ys)).1;obtain⟨X2,hX2⟩:=named (cA (ax ys)).2
 have FIN:Hid (∀R:Int,∀i:Nat,i<n-> (∀k,k<i->cI (nd (ax ys) k) =0)->R=cI (nd (ax ys) i)->R≠0->X1=i/\X2=R) :=fun R i hi hp hR h0=>by
  have:=tI (l:=ax ys) (i:=i) (by rw[HL.out];exact hi) hp (by rw[<- hR];exact h0);rw[hX1.out,hX2.out,this,hR];exact⟨rfl,rfl⟩
 have FIN2:Hid ((∀k,k<n->cI (nd (ax ys) k) =0)->∀R:Int,∀i:Nat,i<n-> (∀k,k<i->eR (ax ys) k=0)->R=eR (ax ys) i->R≠0->X1=i/\X2=R) :=fun HO R i hi hp hR h0=>by
  have:=tJ (l:=ax ys) (i:=i) (fun k hk=>HO k (by rw[<- HL.out];exact hk)) (by rw[HL.out];exact hi) hp (by rw[<- hR];exact h0);rw[hX1.out,hX2.out,this,hR];exact⟨rfl,rfl⟩
 have END:Hid ((∀k,k<n->cI (nd (ax ys) k) =0)-> (∀k,k<n->eR (ax ys) k=0)->X1=n/\X2=0) :=fun HO h=>by
  have:=ji (l:=ax ys) (fun k hk=>HO k (by rw[<- HL.out];exact hk)) (fun k hk=>h k (by rw[<- HL.out];exact hk));rw[hX1.out,hX2.out,this,HL.out];exact⟨rfl,rfl⟩
 rw[<- hX1.out,<- hX2.out];unfold maxLen at hn;clear ha hX1 hX2;go_enter Tryz.func69,Tryz.ntmps69;go_wp2_with fail;go_loopw [4] (fun i wr=>∃j:Nat,i= .int .i64 j/\j<=n/\ (∀k,k<j->cI (nd (ax ys) k) =0)/\Below w.heap.size w wr) (fun i _=>n- (intOf i).toNat)
 case atStart=>exact⟨0,rfl,Nat.zero_le _,fun k hk=>absurd hk (Nat.not_lt_zero k),au⟩
 case round=>
  obtain⟨j,rfl,hj,hp,hB⟩:=hrel;have HP:=aa hp;have HB:=aa hB;clear hp hB;by_cases hjn:j<n
  ·obtain⟨b,off,y,rfl,hb,hy,hf,hat⟩:=HA.out.get j hjn;have hat':=hat.below HB.out hb;obtain⟨c0,c1,c2,c3,c4,c5⟩:=hat'.c hy;obtain⟨R,hR⟩:=named (cI y.n);have EY:Hid (R=cI (nd (ax ys) j)) :=by show _=_;rw[hR.out,fS hy]
   have ONE:Hid (∀w',Calls Tryz.prog 114 #[.agg (eY y).toArray] w' fun e w''=>e= .returned (.int .i64 R)/\Below w'.heap.size w' w'') :=fun w'=>by
    rw[hR.out];exact nu y.n.k y.n.p y.n.m y.n.t y.a y.n.d y.cap y.n.c w' (Nat.le_trans hf.p (by decide)) (Nat.le_trans hf.t (by decide))
   clear hat hat' hf hy hR;obtain⟨⟨k,p,m,t,d,c⟩,x,xc⟩:=y;obtain⟨L,hL⟩:=named d.length;have c4':wr.cell? ⟨b,off+j*6+4,none⟩=some (.slice x L xc) :=by rw[hL.out];exact c4
   have ONE':Hid (∀w',Calls Tryz.prog 114 #[.agg (cg k p m t x L xc c).toArray] w' fun e w''=>e= .returned (.int .i64 R)/\Below w'.heap.size w' w'') :=by rw[hL.out];exact ONE.out
   clear c4 hL ONE hb;have j1: (j:Int) <n:=by omega
   go_wp2_with fail;refine(ONE'.out wr).mono ?_;rintro e w4 ⟨rfl,b4⟩;have B4:=aa (ar HB.out b4);clear b4 c0 c1 c2 c3 c4' c5;by_cases hr:R=0
   ·subst hr;clear FIN FIN2 END;go_wp2_with fail
    go_round
    case rel=>exact⟨j+1,by go_num,by omega,fun k hk=>by
     by_cases h:k<j
     ·exact HP.out k h
     ·obtain rfl:k=j:=by omega
      exact EY.out.symm,B4.out⟩
    case measure=>simp[intOf];omega
   ·obtain⟨q1,q2⟩:=FIN.out R j hjn HP.out EY.out hr;have nr: (R !=0) =true:=by simpa using hr
    clear FIN FIN2 END hr EY ONE';subst q1 q2;go_wp2_with fail;go_ret2;exact⟨rfl,B4.out⟩
  ·obtain rfl:j=n:=by omega
   have FINX:=aa (FIN2.out HP.out);have ENDX:=aa (END.out HP.out);clear FIN FIN2 END hjn;go_wp2_with fail;go_loopw [6] (fun i wr=>∃q:Nat,i= .int .i64 q/\q<=j/\ (∀k,k<q->eR (ax ys) k=0)/\Below w.heap.size w wr) (fun i _=>j- (intOf i).toNat)
   case atStart=>exact⟨0,rfl,Nat.zero_le _,fun k hk=>absurd hk (Nat.not_lt_zero k),HB.out⟩
   case round=>
    obtain⟨q,rfl,hq,hp,hB⟩:=hrel;have HT:=aa hp;have HQ:=aa hB;clear hp hB;by_cases hqn:q<j
    ·have q1: (q:Int) <j:=by omega
     obtain⟨R,hR⟩:=named (eR (ax ys) q);have T:=yL a j cap q ys _ (HA.out.below HQ.out) hqn;rw[<- hR.out]at T;have TT:=aa T;clear T;go_wp2_with fail;refine TT.out.mono ?_;rintro e w4 ⟨rfl,b4⟩;have B4:=aa (ar HQ.out b4);clear b4;by_cases hr:R=0
     ·subst hr;clear FINX ENDX;go_wp2_with fail
      go_round
      case rel=>exact⟨q+1,by go_num,by omega,fun k hk=>by
       by_cases h:k<q
       ·exact HT.out k h
       ·obtain rfl:k=q:=by omega
        exact hR.out.symm,B4.out⟩
      case measure=>simp[intOf];omega
     ·obtain⟨q1,q2⟩:=FINX.out R q hqn HT.out hR.out hr;have nr: (R !=0) =true:=by simpa using hr
      clear FINX ENDX hr TT hR;subst q1 q2;go_wp2_with fail;go_ret2;exact⟨rfl,B4.out⟩
    ·obtain rfl:q=j:=by omega
     obtain⟨q1,q2⟩:=ENDX.out HT.out;clear FINX ENDX;subst q1 q2;go_wp2;go_ret2;exact⟨rfl,HQ.out⟩
end Tre
namespace Flt
open Go.RowKit Go.Proofs.YtcjagakckffkiaaGreatDoor.Fit Pnm Tre
theorem Gv {w:World}{zs:List aP}(hf:∀z∈zs,lP w z){i:Nat}(hi:i<zs.length)(a:Option Addr)(cap:Nat) :lO ⟨mb (ax zs) i,a,cap⟩:=by
 have hl:i< (ax zs).length:=by rw[aV];exact hi
 have h:=hf _ (List.getElem_mem hi);have hz:nd (ax zs) i=zs[i].n:=fS (List.getElem?_eq_getElem hi)
 cases e:fr (ax zs) i (nd (ax zs) i).c with
 |some y=>
  rw[eJ e,hz];obtain⟨r,hr,rfl,_⟩:=lF (Nat.le_of_lt hl) e;have hr':r<zs.length:=by omega
  have hp:= (hf _ (List.getElem_mem hr')).p;rw[<- fS (List.getElem?_eq_getElem hr')]at hp;exact⟨(show(Lit.int .i64 3).wf=true by decide),h.p,h.m,hp,(show(Lit.int .i64 0).wf=true by decide),(fun z hz=>by cases hz),Nat.zero_le _⟩
 |none=>
  rw[dz e,hz];refine⟨h.k,h.p,h.m,h.t,?_,h.d.2.2.2.1,h.l⟩;show(Lit.int .i64 (if zs[i].n.k=1 then(zs[i].n.d.length:Int)else 0)).wf=true;have:=h.l;have e1:IntKind.i64.min= -9223372036854775808:=by decide
  have e2:IntKind.i64.max=9223372036854775807:=by decide
  split<;>simp[Lit.wf] <;>omega
theorem yE (a:Option Addr)(n cap:Nat)(ys:List aP)(w:World)(ha:bA w a n cap ys)(h40:n<=1759218604441) :Calls Tryz.prog 34 #[.slice a n cap] w (tx w (ax ys)) :=by
 have HA:=aa ha;have MO:=aa Ef;have MZ:=aa Fh;have H40:=aa h40;have n40: (n:Int)<=1759218604441:=by omega
 have HN:Hid ((ax ys).length=n) :=by show _=_;rw[aV];exact ha.n
 obtain⟨X1,hX1⟩:=named (cA (ax ys)).1;obtain⟨X2,hX2⟩:=named (cA (ax ys)).2
 have PC:Hid (Calls Tryz.prog 69 #[.slice a n cap] w fun e w''=>e= .returned (.tuple #[.int .i64 X1,.int .i64 X2])/\Below w.heap.size w w'') :=by
  show Calls _ _ _ _ _;rw[hX1.out,hX2.out];exact yz a n cap ys w ha
 obtain⟨i0,HI0⟩:=lH (P:=Tryz.prog) (e:=70) (z:= .agg (iR 0 emp 0 emp 0 none 0 0).toArray) (s:=6) (b:=80) (by kernel_rfl);have I6:Hid ((Tryz.prog.info? 70).map (fun i=> (i.zero,i.size)) =some (some (.agg (iR 0 emp 0 emp 0 none 0 0).toArray),6)) :=by show _=_;kernel_rfl
 have I8:Hid ((Tryz.prog.info? 5).map (·.size) =some 1) :=by show _=_;obtain⟨i,h1,_,h2,_⟩:=Ct;simp[h1,h2]
 have U8:=aa Ct;have S30:Hid ((Tryz.prog.info? 25).map (·.size) =some 1) :=by show _=_;kernel_rfl
 have S5:Hid ((Tryz.prog.info? 68).map (·.size) =some 5) :=by show _=_;kernel_rfl
 clear ha h40;go_enter Tryz.func34,Tryz.ntmps34;go_wp2_with fail;refine PC.out.mono ?_;rintro e w1 ⟨rfl,b1⟩;have B1:=aa b1;clear b1 PC;by_cases hx:¬X2=0
 ·have nx: (X2 !=0) =true:=by simpa using hx
  go_wp2_with fail;go_ret3;exact .bad hX1.out hX2.out hx B1.out
 obtain rfl:X2=0:=Decidable.not_not.mp hx;clear hx;have VAL:Hid (wj (ax ys)) :=lU.mp hX2.out.symm;obtain rfl:X1= (n:Int) :=by rw[hX1.out,tK VAL.out,HN.out]
 go_wp2_with fail;refine(sW a n cap ys w1 (HA.out.below B1.out) H40.out).mono ?_;rintro e w4 ⟨c,cc,zs,rfl,hz,ez,_,_,b4⟩;have CAN:Hid (Can (ax zs)) :=by show Can _;rw[ez];exact lS VAL.out
 have HZ:=aa hz;have EZ:=aa ez;have B4:=aa (ar B1.out b4);have ZN:Hid (zs.length=n) :=hz.n;have ncc: (n:Int)<=cc:=by have:=hz.c;omega
 clear hz ez b4 B1;go_wp2_with fail;go_loopw [8,7] (fun i v wr=>∃(j:Nat) (us:List dh) (va:Option Addr) (vc:Nat),i= .int .i64 j/\v= .slice va j vc/\j<=n/\RM w4.heap.size (ax zs) wr us j (.slice va j vc)/\Below w4.heap.size w4 wr) (fun i _ _=>n- (intOf i).toNat)
 case atStart=>exact⟨0,[],none,0,rfl,rfl,Nat.zero_le _,⟨⟨rfl,.inl ⟨rfl,rfl⟩⟩,fun i u h=>by simp at h⟩,au⟩
 case round=>
  obtain⟨j,us,va,vc,rfl,rfl,hj,hrm,hB⟩:=hrel;by_cases hjn:j<n
  ·obtain⟨b,off,z,rfl,hb,hz,hf,hat⟩:=HZ.out.get j hjn;have RMM:=aa hrm;have HB:=aa hB;have JN:=aa hjn;have BL:=aa hb;have AT:=aa hat;have BW:Hid (w4.heap.size<=wr.heap.size) :=hB.size;have MS:Hid (∀a cap,lO ⟨mb (ax zs) j,a,cap⟩) :=fun a cap=>Gv HZ.out.s (by rw[ZN.out];exact hjn) a cap;have EJ:Hid (nd (ax zs) j=z.n) :=fS hz;have JL:Hid (j< (ax zs).length) :=by show _<_;rw[aV,ZN.out];exact hjn
   have HY:=aa hz;have IK:=aa (hf.below hB).d.vv;have DL0:=aa hf.l;have OC:=aa (kW (CAN.out.v.one _ (cP JL.out)));obtain⟨c0,c1,c2,c3,c4,c5⟩:= (hat.below hB hb).c hz;clear hrm hB hjn hb hat hz hf hj;obtain⟨⟨k,p,m,t,d,cl⟩,x,xc⟩:=z;obtain⟨L,hL⟩:=named d.length;have c4':wr.cell? ⟨b,off+j*6+4,none⟩=some (.slice x L xc) :=by rw[hL.out];exact c4
   have DL:Hid (L<=140737488355328) :=by show _<=_;rw[hL.out];exact DL0.out
   clear c4 DL0;have j1: (j:Int) <n:=by have:=JN.out;omega
   obtain⟨s0,hs0⟩:=named (if k=1 then(L:Int)else 0);go_wp2_with fail;refine(ns k p m t x L xc cl wr).mono ?_;rintro e w5 ⟨rfl,b5⟩;rw[<- hs0.out];have B5:=aa b5;clear b5 c0 c1 c2 c3 c4' c5;by_cases hk:¬k=1
   ·have nk: (k==1) =false:=by simpa using hk
    have bX:d= [] :=by have:=OC.out.2.2.1 (by rw[EJ.out];exact hk);rw[EJ.out]at this;exact this
    have EMB:Hid ((⟨⟨k,p,m,t,s0⟩,[]⟩:Mb) =mb (ax zs) j) :=by
     have hn:fr (ax zs) j (nd (ax zs) j).c=none:=by
      refine(fO (Nat.le_of_lt JL.out)).mpr fun i _ hm=>?_;have:=OC.out.2.1 (by rw[EJ.out];exact hk);omega
     show _=_;rw[dz hn,EJ.out,hs0.out,if_neg hk];unfold vA gj;dsimp only;rw[if_neg hk,bX]
    have EMS:Hid (lO ⟨⟨⟨k,p,m,t,s0⟩,[]⟩,none,0⟩) :=by show lO _;rw[EMB.out];exact MS.out none 0
    clear hs0 bX hk IK;go_wp2_with (first| (refine ag rfl 70 rfl (iR 0 emp 0 emp 0 none 0 0) MZ.out ?_;intro w6 g6 b6;have G6:=aa g6;have B6:=aa (ar B5.out b6);clear g6 b6) | (refine ae rfl 70 _ _ rfl w5.heap.size rfl (iR k p m t s0 none 0 0) (iR 0 emp 0 emp 0 none 0 0) rfl 70 G6.out MO.out.2 rfl (mK _ _ _ _ _ _ _ _) ?_;intro w7 g7 t7;have G7:=aa g7;have B7:=aa (B6.out.trans (t7.below B5.out.size));have N7:=aa (HB.out.trans (B7.out.mono BW.out));have e0:= ((AT.out.below N7.out BL.out).c HY.out).1;have R7:=aa (RMM.out.below B7.out);have FU:Hid (jb w4.heap.size w7 ⟨⟨⟨k,p,m,t,s0⟩,[]⟩,none,0⟩) :=qX _ _ _;have f0:=G7.out.get 0 rfl;have f1:=G7.out.get 1 rfl;have f2:=G7.out.get 2 rfl;have f3:=G7.out.get 3 rfl;have f4:=G7.out.get 4 rfl;have f5:=G7.out.get 5 rfl;clear g7 t7) | (at_builtin;refine ea rfl _ _ 59 rfl 70 w4.heap.size i0 _ Tryz.underlying59 HI0 rfl (.slice va j vc) j us rfl R10.out.own (some ⟨w7.heap.size,0,none⟩) 1 1 [⟨⟨⟨k,p,m,t,s0⟩,[]⟩,none,0⟩] rfl (.inr ⟨_,0,rfl,G10.out.lt,.of_cells G10.out⟩) rfl (by have:=JN.out;have:=H40.out;omega) (Nat.le_trans BW.out B10.out.size) ?_;intro v11 w11 g11 b11 x11 _;have R11:=aa (R10.out.next (show dh.n ⟨⟨⟨k,p,m,t,s0⟩,[]⟩,none,0⟩=_ from EMB.out) (EMS.out) FU10.out g11 x11);obtain⟨va',vc',rfl,_⟩:=dF.bG g11 (fun y hy=>by obtain⟨i,hi,rfl⟩:=List.getElem_of_mem hy;exact(R11.out.el i _ (List.getElem?_eq_getElem hi)).2.1.f (R11.out.el i _ (List.getElem?_eq_getElem hi)).2.2);have B11:=aa ((HB.out.trans (B10.out.mono BW.out)).trans b11);clear g11 b11 x11) | (refine fH rfl 59 70 _ rfl Tryz.underlying59 _ I6.out ⟨⟨⟨k,p,m,t,s0⟩,[]⟩,none,0⟩ rfl ?_;intro w10 g10 b10;have G10:=aa g10;have B10:=aa (ar B7.out b10);have R10:=aa (R7.out.below b10);have FU10:=aa (FU.out.below b10);clear g10 b10))
    go_round
    case rel=>exact⟨j+1,_,va',vc',by go_num,rfl,by have:=JN.out;omega,R11.out,B11.out⟩
    case measure=>simp[intOf];have:=JN.out;omega
   ·obtain rfl:k=1:=Decidable.not_not.mp hk;clear hk;have n1: ((1:Int) ==1) =true:=by simp
    obtain rfl:s0= (L:Int) :=by rw[hs0.out,if_pos rfl]
    clear hs0;go_wp2_with (first| (refine ag rfl 70 rfl (iR 0 emp 0 emp 0 none 0 0) MZ.out ?_;intro w6 g6 b6;have G6:=aa g6;have B6:=aa (ar B5.out b6);clear g6 b6) | (refine ae rfl 70 _ _ rfl w5.heap.size rfl (iR 1 p m t L none 0 0) (iR 0 emp 0 emp 0 none 0 0) rfl 70 G6.out MO.out.2 rfl (mK _ _ _ _ _ _ _ _) ?_;intro w7 g7 t7;have G7:=aa g7;have B7:=aa (B6.out.trans (t7.below B5.out.size));have N7:=aa (HB.out.trans (B7.out.mono BW.out));have e0:= ((AT.out.below N7.out BL.out).c HY.out).1;clear g7 t7));refine(sY (some ⟨b,off,none⟩) n cc zs j w7 (HZ.out.below N7.out) CAN.out JN.out H40.out).mono ?_;rintro e w8 ⟨q,rfl,hle,b8⟩;obtain⟨le1,le2⟩:=hle.fr JL.out;have QJ:Hid (q<=j) :=hle.le;have LE1:=aa le1;have LE2:=aa le2;have B8:=aa (ar B7.out b8);have N8:=aa (HB.out.trans (B8.out.mono BW.out));have G8:=aa (G7.out.below b8 G7.out.lt);clear hle le1 le2 b8 e0;by_cases hq:q=j
    ·obtain rfl:j=q:=hq.symm;have nq: ((j:Int) == (j:Int)) =true:=by simp
     have c4:= ((AT.out.below N8.out BL.out).c HY.out).2.2.2.2.1;rw[<- hL.out]at c4
     have EMB:Hid ((⟨⟨1,p,m,t,L⟩,d⟩:Mb) =mb (ax zs) j) :=by
      show _=_;rw[dz (LE1.out rfl),EJ.out,hL.out];rfl
     have IK8:=aa (IK.out.below B8.out);have EMS:Hid (∀a cap,lO ⟨⟨⟨1,p,m,t,L⟩,d⟩,a,cap⟩) :=fun a cap=>by rw[EMB.out];exact MS.out a cap
     go_wp2_with (first| (refine fo rfl 25 5 .u8 rfl Tryz.underlying25 I8.out ?_;intro w9 h9 b9;have O9:=aa h9;have B9:=aa b9;have G9:=aa (G8.out.below b9 G8.out.lt);have c4:= ((AT.out.below (N8.out.trans (b9.mono (Nat.le_trans BW.out B8.out.size))) BL.out).c HY.out).2.2.2.2.1;rw[<- hL.out]at c4;clear h9 b9) | (at_builtin;refine cS rfl _ _ 25 rfl w8.heap.size 5 .u8 1 Tryz.underlying25 U8.out (.slice (some ⟨w8.heap.size,0,none⟩) 0 0) 0 [] rfl O9.out x L xc d rfl (IK8.out.below B9.out) hL.out.symm (by have:=DL.out;unfold maxLen;omega) (by have:=DL.out;omega) B9.out.size ?_;intro v9 w9' h9 b9;rw[Nat.zero_add,List.nil_append]at h9;obtain⟨a9,c9,hv9,_⟩:=bj h9;subst hv9;have P9:=aa h9;have D9:=aa (B9.out.trans b9);have G9':=aa (G9.out.below (b9.mono aj) G8.out.lt);clear h9 b9) | (refine al rfl 25 _ _ rfl w5.heap.size 5 rfl (.slice a9 L c9) rfl rfl S30.out 70 (iR 1 p m t L none 0 0) G9'.out (by show 5<6;omega) ?_;intro wa ga ta;have GA:Hid (an wa w5.heap.size 70 (iR 1 p m t L a9 L c9)) :=ga;have BA:=aa ((ar B8.out D9.out).trans (ta.below B5.out.size));have PA:=aa (aH P9.out ta G8.out.lt);have f0:=GA.out.get 0 rfl;have f1:=GA.out.get 1 rfl;have f2:=GA.out.get 2 rfl;have f3:=GA.out.get 3 rfl;have f4:=GA.out.get 4 rfl;have f5:=GA.out.get 5 rfl;have RA:=aa (RMM.out.below BA.out);have FU:Hid (jb w4.heap.size wa ⟨⟨⟨1,p,m,t,L⟩,d⟩,a9,c9⟩) := (by unfold jb;show wa.ownsRow _ _ 1 (.slice a9 d.length c9) d.length _;rw[<- hL.out];exact gn PA.out (Nat.le_trans BW.out B8.out.size));have EQL:Hid (Value.agg (iR 1 p m t L a9 L c9).toArray= .agg (jA (⟨⟨⟨1,p,m,t,L⟩,d⟩,a9,c9⟩:dh)).toArray) := (by show _=_;rw[hL.out]);clear ga ta) | (at_builtin;refine ea rfl _ _ 59 rfl 70 w4.heap.size i0 _ Tryz.underlying59 HI0 rfl (.slice va j vc) j us rfl R10.out.own (some ⟨wa.heap.size,0,none⟩) 1 1 [⟨⟨⟨1,p,m,t,L⟩,d⟩,a9,c9⟩] rfl (.inr ⟨_,0,rfl,G10.out.lt,.of_cells G10.out⟩) rfl (by have:=JN.out;have:=H40.out;omega) (Nat.le_trans BW.out B10.out.size) ?_;intro v11 w11 g11 b11 x11 _;have R11:=aa (R10.out.next (show dh.n ⟨⟨⟨1,p,m,t,L⟩,d⟩,a9,c9⟩=_ from EMB.out) (EMS.out _ _) FU10.out g11 x11);obtain⟨va',vc',rfl,_⟩:=dF.bG g11 (fun y hy=>by obtain⟨i,hi,rfl⟩:=List.getElem_of_mem hy;exact(R11.out.el i _ (List.getElem?_eq_getElem hi)).2.1.f (R11.out.el i _ (List.getElem?_eq_getElem hi)).2.2);have B11:=aa ((HB.out.trans (B10.out.mono BW.out)).trans b11);clear g11 b11 x11) | (refine fH rfl 59 70 _ rfl Tryz.underlying59 _ I6.out ⟨⟨⟨1,p,m,t,L⟩,d⟩,a9,c9⟩ EQL.out ?_;intro w10 g10 b10;have G10:=aa g10;have B10:=aa (ar BA.out b10);have R10:=aa (RA.out.below b10);have FU10:=aa (FU.out.below b10);clear g10 b10))
     go_round
     case rel=>exact⟨j+1,_,va',vc',by go_num,rfl,by have:=JN.out;omega,R11.out,B11.out⟩
     case measure=>simp[intOf];have:=JN.out;omega
    ·have nq: ((q:Int) == (j:Int)) =false:=by simp;omega
     have EMB:Hid ((⟨⟨3,p,m,(nd (ax zs) q).p,0⟩,[]⟩:Mb) =mb (ax zs) j) :=by
      show _=_;rw[eJ (LE2.out (by have:=QJ.out;omega)),EJ.out];rfl
     have z1:= (AT.out.below N8.out BL.out).c HY.out;have d1:=z1.2.1;have d2:=z1.2.2.1;have ql:q<n:=by have:=QJ.out;have:=JN.out;omega
     have hy2:∃y,zs[q]? =some y:=⟨_,List.getElem?_eq_getElem (by rw[ZN.out];exact ql)⟩;obtain⟨y,hy2⟩:=hy2;have e1:= ((AT.out.below N8.out BL.out).c hy2).2.1;have PY:Hid ((nd (ax zs) q).p=y.n.p) :=by show _=_;rw[fS hy2]
     rw[<- PY.out]at e1;obtain⟨pq,hpq⟩:∃pq,pq= (nd (ax zs) q).p:=⟨_,rfl⟩;rw[<- hpq]at e1 EMB;have q1: (q:Int) <n:=by omega
     have f0:=G8.out.get 0 rfl;have f1:=G8.out.get 1 rfl;have f2:=G8.out.get 2 rfl;have f3:=G8.out.get 3 rfl;have f4:=G8.out.get 4 rfl;have f5:=G8.out.get 5 rfl;have y0:=G8.out.frozen 0;have y1:=G8.out.frozen 1;have y2:=G8.out.frozen 2;have y3:=G8.out.frozen 3;have y4:=G8.out.frozen 4;clear z1 hy2 PY hpq ql;go_wp2_with fail;go_big_region_o;have GE:an (((((w8.setCell ⟨w5.heap.size,0,none⟩ (.int .i64 3)).setCell ⟨w5.heap.size,1,none⟩ (.string p)).setCell ⟨w5.heap.size,2,none⟩ (.int .i64 m)).setCell ⟨w5.heap.size,3,none⟩ (.string pq)).setCell ⟨w5.heap.size,4,none⟩ (.int .i64 0)).drew w5.heap.size 70 (iR 3 p m pq 0 none 0 0) := ((((G8.out.set 0 (.int .i64 3)).set 1 (.string p)).set 2 (.int .i64 m)).set 3 (.string pq)).set 4 (.int .i64 0);have BE:Below wr.heap.size wr (((((w8.setCell ⟨w5.heap.size,0,none⟩ (.int .i64 3)).setCell ⟨w5.heap.size,1,none⟩ (.string p)).setCell ⟨w5.heap.size,2,none⟩ (.int .i64 m)).setCell ⟨w5.heap.size,3,none⟩ (.string pq)).setCell ⟨w5.heap.size,4,none⟩ (.int .i64 0)).drew:= (((((B8.out.setCell (p:=⟨w5.heap.size,0,none⟩) B5.out.size (.int .i64 3)).setCell (p:=⟨w5.heap.size,1,none⟩) B5.out.size (.string p)).setCell (p:=⟨w5.heap.size,2,none⟩) B5.out.size (.int .i64 m)).setCell (p:=⟨w5.heap.size,3,none⟩) B5.out.size (.string pq)).setCell (p:=⟨w5.heap.size,4,none⟩) B5.out.size (.int .i64 0)).drew;revert GE BE;generalize (((((w8.setCell ⟨w5.heap.size,0,none⟩ (.int .i64 3)).setCell ⟨w5.heap.size,1,none⟩ (.string p)).setCell ⟨w5.heap.size,2,none⟩ (.int .i64 m)).setCell ⟨w5.heap.size,3,none⟩ (.string pq)).setCell ⟨w5.heap.size,4,none⟩ (.int .i64 0)).drew=wa;intro ge be;have GA:=aa ge;have BA:=aa be;clear ge be f0 f1 f2 f3 f4 f5 y0 y1 y2 y3 y4 d1 d2 e1 q1;have EMS:Hid (lO ⟨⟨⟨3,p,m,pq,0⟩,[]⟩,none,0⟩) :=by show lO _;rw[EMB.out];exact MS.out none 0
     have RA:=aa (RMM.out.below BA.out);have FU:Hid (jb w4.heap.size wa ⟨⟨⟨3,p,m,pq,0⟩,[]⟩,none,0⟩) :=qX _ _ _;have f0:=GA.out.get 0 rfl;have f1:=GA.out.get 1 rfl;have f2:=GA.out.get 2 rfl;have f3:=GA.out.get 3 rfl;have f4:=GA.out.get 4 rfl;have f5:=GA.out.get 5 rfl;go_wp2_with (first| (at_builtin;refine ea rfl _ _ 59 rfl 70 w4.heap.size i0 _ Tryz.underlying59 HI0 rfl (.slice va j vc) j us rfl R10.out.own (some ⟨wa.heap.size,0,none⟩) 1 1 [⟨⟨⟨3,p,m,pq,0⟩,[]⟩,none,0⟩] rfl (.inr ⟨_,0,rfl,G10.out.lt,.of_cells G10.out⟩) rfl (by have:=JN.out;have:=H40.out;omega) (Nat.le_trans BW.out B10.out.size) ?_;intro v11 w11 g11 b11 x11 _;have R11:=aa (R10.out.next (show dh.n ⟨⟨⟨3,p,m,pq,0⟩,[]⟩,none,0⟩=_ from EMB.out) (EMS.out) FU10.out g11 x11);obtain⟨va',vc',rfl,_⟩:=dF.bG g11 (fun y hy=>by obtain⟨i,hi,rfl⟩:=List.getElem_of_mem hy;exact(R11.out.el i _ (List.getElem?_eq_getElem hi)).2.1.f (R11.out.el i _ (List.getElem?_eq_getElem hi)).2.2);have B11:=aa ((HB.out.trans (B10.out.mono BW.out)).trans b11);clear g11 b11 x11) | (refine fH rfl 59 70 _ rfl Tryz.underlying59 _ I6.out ⟨⟨⟨3,p,m,pq,0⟩,[]⟩,none,0⟩ rfl ?_;intro w10 g10 b10;have G10:=aa g10;have B10:=aa (ar BA.out b10);have R10:=aa (RA.out.below b10);have FU10:=aa (FU.out.below b10);clear g10 b10))
     go_round
     case rel=>exact⟨j+1,_,va',vc',by go_num,rfl,by have:=JN.out;omega,R11.out,B11.out⟩
     case measure=>simp[intOf];have:=JN.out;omega
  ·obtain rfl:j=n:=by omega
   obtain⟨d1,d2⟩:=hrm.done (by rw[aV,ZN.out]);obtain⟨va',vc',e,hA⟩:=dF.bG hrm.own d2;injection e with e1 _ e3;subst e1;subst e3
   have RES:Hid (tx w (ax ys) (.returned (.tuple #[.slice va j vc,.int .i64 (j:Int),.int .i64 0])) wr) :=by
    refine⟨_,_,_,us,_,_,rfl,hX1.out,hX2.out,hA,?_,ar B4.out hB⟩;unfold gQ;rw[<- hX2.out,if_pos rfl,d1,EZ.out]
   clear hrm hB d1 d2 hA hjn hj;go_wp2_with fail;go_ret3;exact RES.out
end Flt
namespace Arc
open Go.RowKit Go.Proofs.YtcjagakckffkiaaGreatDoor.Fit Pnm Tre Flt fQ Reb
noncomputable def nN (l:List Nd) :List Int:=if(cA l).2=0 then sk (gQ l)else []
theorem zL {A:List Mb}(h:∀x∈A,dn x.e=0) : (dJ A).length % 512=0:=by
 induction A with
 |nil=>rfl
 |cons x A ih=>
  have h1:= (iO (h x List.mem_cons_self)).1;have h2:= (iO (h x List.mem_cons_self)).2;have h3:=ij x.d.length;have h4:=ih fun y hy=>h y (List.mem_cons_of_mem _ hy);have h5:= @ku x;have e:dJ (x::A) =si x++dJ A:=by unfold dJ;rw[List.flatMap_cons]
  rw[e,List.length_append]
  split at h2<;>omega
theorem xI {x:Mb}(h:Bytes x.d) :Bytes (si x) :=by
 unfold si;exact(lZ x.e).append (h.append (.replicate _ (by decide)))
theorem uU {A:List Mb}(h:∀x∈A,Bytes x.d) :Bytes (dJ A) :=by
 induction A with
 |nil=>intro z hz;cases hz
 |cons x A ih=>
  have e:dJ (x::A) =si x++dJ A:=by unfold dJ;rw[List.flatMap_cons]
  rw[e];exact(xI (h x List.mem_cons_self)).append (ih fun y hy=>h y (List.mem_cons_of_mem _ hy))
theorem zo (N:Nat) :Int.tmod (N:Int) 512= ((N % 512:Nat) :Int) :=by rw[Int.tmod_eq_emod_of_nonneg (by omega)];omega
theorem rE (a:Option Addr)(n cap:Nat)(ys:List aP)(w:World)(ha:bA w a n cap ys)(h40:n<=1000)(hL: (dJ (gQ (ax ys))).length<=100000000) :
 Calls Tryz.prog 15 #[.slice a n cap] w (eO (nN (ax ys)) (cA (ax ys)).2 w) :=by
 have HM:=aa (yE a n cap ys w ha (by omega));obtain⟨i0,hi0⟩:=dx (P:=Tryz.prog) (e:=5) (by kernel_rfl);have HI:=hi0;clear hi0;have LB:=aa hL;obtain⟨AZ,hAZ⟩:=named (nN (ax ys));rw[<- hAZ.out];have hok:= @lU (ax ys);have HOK:=aa hok;clear ha hL hok;go_enter Tryz.func15,Tryz.ntmps15;go_wp2_with fail;refine HM.out.mono ?_;rintro e w1 ⟨b,k,c,us,X1,X2,rfl,hX1,hX2,hu,hm,b1⟩;have HU:=aa hu;have HMM:=aa hm;have B1:=aa b1;have HX2:=aa hX2;clear hX1 hu hm b1 HM;by_cases h0:¬X2=0
 ·have n0: (X2 !=0) =true:=by simpa using h0
  have RZ:Hid (AZ= []) :=by show _=_;rw[hAZ.out];unfold nN;rw[if_neg (by rw[<- HX2.out];exact h0)]
  clear h0 hX2;go_wp2_with fail;go_ret2;rw[RZ.out,<- HX2.out];exact eO.nil B1.out
 obtain rfl:X2=0:=Decidable.not_not.mp h0;rw[<- HX2.out];clear h0;have HC0:Hid ((cA (ax ys)).2=0) :=HX2.out.symm;obtain⟨A,hA⟩:=named (gQ (ax ys));have UA:Hid (wz us=A) :=by show _=_;rw[HMM.out,hA.out]
 have AL:Hid (A.length=k) :=by show _=_;rw[<- UA.out,lJ];exact HU.out.n
 rw[<- hA.out]at LB;have AZE:Hid (AZ=dJ A++ao 1024) :=by show _=_;rw[hAZ.out];unfold nN;rw[if_pos HX2.out.symm,<- hA.out];rfl
 have AC:Hid (∀x∈A,dn x.e=0) :=fun x hx=>by
  have hc:=lS (HOK.out.mp hX2.symm);rw[hA.out]at hx;unfold gQ at hx;rw[if_pos hX2.symm]at hx;obtain⟨i,hi,rfl⟩:=List.getElem_of_mem hx;have hi':i< (canon (ax ys)).length:=by rwa [fi]at hi
  have:=iS hi';rw[List.getElem?_eq_getElem hi]at this;rw[Option.some.inj this];exact hc.ck hi'
 have HI8:Hid ((Tryz.prog.info? 5).map (fun i=> (i.zero,i.size,i.bytes)) =some (some (.int .u8 0),1,1)) :=by show _=_;kernel_rfl
 have kb: (k:Int)<=100000000:=by
  have h1:A.length*512<= (dJ A).length:=by
   have:∀L:List Mb,(∀x∈L,dn x.e=0)->L.length*512<= (dJ L).length:=by
    intro L
    induction L with
    |nil=>intro _;exact Nat.zero_le _
    |cons x L ih=>
     intro h;have e:dJ (x::L) =si x++dJ L:=by unfold dJ;rw[List.flatMap_cons]
     have:=ih fun y hy=>h y (List.mem_cons_of_mem _ hy);have:=xJ x (h x List.mem_cons_self);rw[e,List.length_append,List.length_cons];omega
   exact this A AC.out
  have:=LB.out;have:=AL.out;omega
 have BD:Hid (∀x∈A,Bytes x.d) :=fun x hx=>by
  rw[<- UA.out]at hx;unfold wz at hx;obtain⟨y,hy,rfl⟩:=List.mem_map.mp hx;obtain⟨i,hi,rfl⟩:=List.getElem_of_mem hy;obtain⟨_,_,z,_,_,hz,hf,_⟩:=HU.out.get i (by have:=HU.out.n;omega);rw[List.getElem?_eq_getElem hi]at hz;rw[Option.some.inj hz];exact hf.d.bytes.bytes
 have LT:Hid (∀j,(dJ (A.take j)).length<= (dJ A).length) :=fun j=>by
  conv=>rhs;rw[<- List.take_append_drop j A,tB,List.length_append]
  omega
 clear hA hAZ HOK hX2;go_wp2_with fail;go_loopw [7,8] (fun v i wr=>∃(j N:Nat) (va:Option Addr) (vc:Nat),v= .slice va N vc/\i= .int .i64 j/\j<=k/\Hid (wr.ownsRow w1.heap.size 5 1 (.slice va N vc) N ((dJ (A.take j)).map (.int .u8)))/\Hid (N= (dJ (A.take j)).length)/\Hid (Below w1.heap.size w1 wr)) (fun _ i _=>k- (intOf i).toNat)
 case atStart=>exact⟨0,0,none,0,rfl,rfl,Nat.zero_le _,⟨rfl,.inl ⟨rfl,rfl⟩⟩,rfl,au⟩
 case round=>
  obtain⟨j,N,va,vc,rfl,rfl,hj,OW,NE,BW⟩:=hrel;by_cases hjk:j<k
  ·obtain⟨b',off,y,rfl,hb,hy,hf,hat⟩:=HU.out.get j hjk;have YC:=aa fun(q:World) (hq:Below w1.heap.size w1 q) => (hat.below hq hb).c hy;obtain⟨c0,c1,c2,c3,c4,_⟩:=YC.out wr BW.out;have EJ:Hid (A[j]? =some y.n) :=by show _=_;rw[<- UA.out];exact pK hy
   have JN:=aa hjk;have P1:=aa (Nat.le_trans hf.p (show 140737488355328<=maxLen by decide));have P2:=aa (Nat.le_trans hf.t (show 140737488355328<=maxLen by decide));have DB:=aa fun(q:World) (hq:Below w1.heap.size w1 q) => (hf.d.below hq).bytes;have kc: (k:Int)<=c:=by have:=HU.out.c;omega
   obtain⟨⟨⟨kk,p,m,t,s⟩,d⟩,x,xc⟩:=y;have Y5:Hid (∀q,Below w1.heap.size w1 q->q.cell? ⟨b',off+j*6+5,none⟩=some (.slice x d.length xc)) :=fun q hq=> (YC.out q hq).2.2.2.2.2;have ST:=aa (eE EJ.out);have CKx:dn ⟨kk,p,m,t,s⟩=0:=AC.out _ (List.mem_of_getElem? EJ.out);obtain⟨zs,hzs⟩:=named (nP ⟨kk,p,m,t,s⟩);have EN:Hid (∀q,Calls Tryz.prog 35 #[.agg (cB kk p m t s).toArray] q (eO zs (dn ⟨kk,p,m,t,s⟩) q)) :=fun q=>by rw[hzs.out];exact yA ⟨kk,p,m,t,s⟩ q P1.out P2.out
   obtain⟨E,hE⟩:=named (dn ⟨kk,p,m,t,s⟩);rw[<- hE.out]at EN;obtain⟨dl,hdl⟩:=named d.length;rw[<- hdl.out]at Y5;have LX:=LT.out (j+1);rw[ST.out,jf,List.length_append,ku]at LX;have XB:Hid (N+ (zs.length+ (dl+bV dl))<=100000000) :=by show _<=_;have:=LB.out;have:=NE.out;rw[hzs.out,hdl.out];exact Nat.le_trans (by rw[NE.out];exact LX) LB.out
   have M0:Hid ((N+zs.length) % 512=0) :=by
    show _=_;have h1:=zL (A:=A.take j) fun x hx=>AC.out x (List.mem_of_mem_take hx);obtain⟨h2,h3⟩:=iO CKx;rw[hzs.out,NE.out]
    split at h3<;>omega
   have j1: (j:Int) <k:=by omega
   clear hb hat hy hf hjk hj YC CKx LX;go_wp2_with fail;refine(EN.out wr).mono ?_;rintro e w7 ⟨hb_,hn_,hc_,rfl,hl,hlc,hlm,hbi,_,b7⟩;have B7:Hid (Below w1.heap.size w1 w7) :=ar BW.out b7;have O7:=aa (bS OW.out b7 aj);have BI:=aa hbi;have HL:=aa hl;have c5:=Y5.out w7 B7.out;have hn1: (hn_:Int)<=100000000:=by have:=XB.out;have:=HL.out;omega
   clear c0 c1 c2 c3 c4 b7 hbi hl;have DL:Hid (d.length=dl) :=hdl.out.symm;have D7:=DB.out w7 B7.out;have DI:=aa D7;clear D7;go_wp2_with (first| (at_builtin;refine bO rfl _ _ 25 rfl w1.heap.size 5 i0 Tryz.underlying25 HI (.slice va N vc) N (dJ (A.take j)) rfl O7.out hb_ hn_ hc_ zs rfl BI.out HL.out (by have:=XB.out;have:=HL.out;omega) B7.out.size ?_;intro v8 w8 h8 b8;obtain⟨a8,k8,rfl,_⟩:=bj h8;have O8:=aa h8;have B8:=aa (B7.out.trans b8);have c6:=Y5.out w8 B8.out;have DI8:=aa (DB.out w8 B8.out);clear h8 b8) | (at_builtin;refine bO rfl _ _ 25 rfl w1.heap.size 5 i0 Tryz.underlying25 HI (.slice a8 (N+hn_) k8) (N+hn_) (dJ (A.take j) ++zs) rfl O8.out x dl xc d rfl DI8.out DL.out (by have:=XB.out;have:=HL.out;omega) B8.out.size ?_;intro v9 w9 h9 b9;have O9:=aa h9;have B9:=aa (B8.out.trans b9);clear h9 b9));obtain⟨PN,hPN⟩:=named (bV dl)
   have AJ:Hid (dJ (A.take (j+1)) =dJ (A.take j) ++zs++d++ao PN) :=by
    show _=_;rw[ST.out,jf,hPN.out,hdl.out,hzs.out];unfold si;rw[List.append_assoc,List.append_assoc]
   obtain⟨XX,hXX⟩:=named (dJ (A.take j) ++zs++d);rw[<- hXX.out]at O9 AJ;obtain⟨M,hM⟩:=named (N+hn_+dl);rw[<- hM.out]at O9;have MB:Hid ((M:Int) +PN<=100000000) :=by show _<=_;have:=XB.out;have:=HL.out;have:=hM.out;have:=hPN.out;omega
   have MP:Hid ((M+PN) % 512=0/\∀u,u<PN->¬(M+u) % 512=0) :=by
    have h0:=M0.out;have h1:=HL.out;have h2:=hM.out;have h3:=hPN.out;unfold bV at h3;refine⟨by omega,fun u hu=>by omega⟩
   have J1:=aa j1;clear O7 O8 B7 B8 BI DI8 DI DB Y5 c5 c6 XB M0 HL DL hXX hM hPN hdl hzs EN hE EJ ST P1 P2 hn1 j1;go_loopw [7] (fun v wq=>∃u q:Nat,q=M+u/\u<=PN/\wq.ownsRow w1.heap.size 5 1 v q ((XX++ao u).map (.int .u8))/\Below w1.heap.size w1 wq) (fun v _=>match v with| .slice _ l _=>M+PN- l|_=>0)
   case atStart=>exact⟨0,M,rfl,Nat.zero_le _,(by have e:XX++ao 0=XX:= (by unfold ao;simp);rw[e];exact O9.out),B9.out⟩
   case round=>
    obtain⟨u,q,hq,hu,ho,hb⟩:=hrel;obtain⟨va9,vc9,rfl,_,_,_,hlen,_⟩:=bj ho;have HLN:=aa hlen;clear hlen;have HO':=aa ho;have HLq:=aa hb;have HQ:=aa hq;have q8: (q:Int)<=100000000:=by have:=MB.out;omega
    have TM:=zo q;clear ho hb;by_cases hlt:u<PN
    ·have hr: ((q:Int) % 512 !=0) =true:=by
      have:=MP.out.2 u hlt;simp only[bne_iff_ne,ne_eq];omega
     have HR:=aa hlt;clear hq;go_wp2_with (first| (refine cK rfl 25 5 _ rfl Tryz.underlying25 HI8.out 0 rfl (by decide) ?_;intro wa ha ba;have HA:=aa ha;have BA:=aa ba;have OA:=aa (jH HO'.out ba aj);clear ha ba) | (at_builtin;refine bP rfl _ _ 25 rfl w1.heap.size 5 i0 Tryz.underlying25 HI _ q _ rfl OA.out wr.heap.size 0 1 1 [0] rfl HA.out.row rfl (by omega) (Nat.le_trans HLq.out.size BA.out.size) ?_;intro vb wb hb bb;have HB:=aa hb;have BB:=aa ((ar HLq.out BA.out).trans bb);clear hb bb));go_roundw
     case rel=>
      refine⟨u+1,q+1,by have:=HQ.out;omega,HR.out,?_,BB.out⟩;have e:XX++ao (u+1) =XX++ao u++ [0] :=by unfold ao;rw[List.replicate_succ',List.append_assoc XX]
      rw[e];exact HB.out
     case measure=>
      obtain⟨_,_,rfl,_⟩:=bj HB.out;have:=HQ.out;have:=HR.out;simp only;omega
    ·obtain rfl:u=PN:=by omega
     have hr: ((q:Int) % 512 !=0) =false:=by
      have:=MP.out.1;have h: (q:Int) % 512=0:=by omega
      rw[h];rfl
     clear hq hlt hu;have j1:=J1.out;go_wp2_with fail;go_roundw
     case rel=>
      refine⟨j+1,q,va9,vc9,rfl,rfl,JN.out,by rw[AJ.out];exact HO'.out,?_,HLq.out⟩;show q=_;rw[AJ.out];exact HLN.out.symm
     case measure=>
      have e1: (intOf (.int .i64 ((j:Int) +1))).toNat=j+1:=by show((j:Int) +1).toNat=_;omega
      have e2: (intOf (.int .i64 (j:Int))).toNat=j:=by show((j:Int)).toNat=_;omega
      rw[e1,e2];have:=JN.out;omega
  ·obtain rfl:j=k:=by omega
   have AT:Hid (dJ (A.take j) =dJ A) :=by show _=_;rw[<- AL.out,List.take_length]
   have NB:Hid (N<=100000000) :=by show _<=_;have:=NE.out;rw[AT.out]at this;have:=LB.out;omega
   clear hjk hj;go_wp2_with (first| (at_builtin;refine iF rfl _ _ 25 3 rfl w1.heap.size 5 .i64 i0 Tryz.underlying25 Tryz.underlying3 HI _ N _ rfl OW.out .i64 _ 1024 rfl rfl (by have:=NB.out;omega) BW.out.size ?_;intro v2 w2 h2 b2;have O2:=aa h2;have B2:=aa (BW.out.trans b2);clear h2 b2));go_ret2;rw[HC0.out,AZE.out];exact .own (by have:=O2.out;rw[AT.out]at this;exact this) ((uU BD.out).append (.replicate _ (by decide))) B1.out.size (B1.out.trans (B2.out.mono B1.out.size))
end Arc
end Go.Proofs.YtcjagakckffkiaaGreatDoor
