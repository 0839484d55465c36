import Derived.Test.YtcjagakckffkiaaGreatDoorQ25
import Derived.Test.YtcjagakckffkiaaGreatDoorQ28
import Derived.Test.YtcjagakckffkiaaGreatDoorQ1
import Derived.Test.YtcjagakckffkiaaGreatDoorQ23
import Derived.Test.YtcjagakckffkiaaGreatDoorQ15
import Derived.Test.YtcjagakckffkiaaGreatDoorQ10
import Derived.Test.YtcjagakckffkiaaGreatDoorQ8
import Derived.Deep.RegionHeld3
set_option maxHeartbeats 16000000
namespace Go.Proofs.YtcjagakckffkiaaGreatDoor.Tre
open Go.RowKit Go.MapKept Go.Proofs.YtcjagakckffkiaaGreatDoor.Fit
def Kd (w:World)(n:Nat)(ys:List aL)(e:Ending)(w':World) :Prop:=
 ∃a c zs,e= .returned (.slice a n c)/\br w' a n c zs/\aI zs=canon (aI ys)/\ (∀z∈zs,iq w.heap.size w' z)/\ (∀x,a=some x->w.heap.size<=x.block/\x.off=0/\∀k,w'.frozen? ⟨x.block,k,none⟩=false)/\Below w.heap.size w w'
theorem uy {w:World}{base n:Nat}{e:TypeId}{v:Value}{ys:List aL}(h:w.ownsRow base e 6 v n (ax ys))(h0:n≠0) :
 ∃g c,v= .slice (some ⟨g,0,none⟩) n c/\n<=c/\c<=maxLen/\base<=g/\g<w.heap.size/\cL w g 0 ys/\∀k,w.frozen? ⟨g,k,none⟩=false:=by
 obtain⟨a,c,hv,hn,hc,hm,hi,hx⟩:=bY.bJ h;obtain⟨_,h2⟩:=h;rcases h2 with⟨_,h2⟩|⟨g,cap,cur,hv',hb,hh,_⟩
 ·exact absurd h2 h0
 ·subst hv;injection hv' with e1 _ e3;subst e1;subst e3;refine⟨g,c,rfl,hc,hm,hb,(hx _ rfl).2,?_,fun k=>by unfold World.frozen?;rw[hh];simp⟩;rcases hi with rfl|⟨b,off,hb',_,hat⟩
  ·exact absurd hn h0
  ·injection hb' with hb';injection hb' with e1 e2;subst e1;subst e2;exact hat
theorem Jw {w:World}{base n c:Nat}{e:TypeId}{a:Option Addr}{xs:List Value}(h:w.ownsRow base e 6 (.slice a n c) n xs) :
 ∀x,a=some x->base<=x.block/\x.off=0/\x.block<w.heap.size/\∀k,w.frozen? ⟨x.block,k,none⟩=false:=by
 rintro x rfl;rcases h.2 with⟨hv,_⟩|⟨g,cap,cur,hv,hb,hh,_⟩
 ·cases hv
 ·injection hv with e1 _ _;injection e1 with e1;subst e1;exact⟨hb,rfl,(Array.getElem?_eq_some_iff.1 hh).1,fun k=>by unfold World.frozen?;rw[hh];simp⟩
set_option maxRecDepth 100000 in
theorem Ck (a:Option Addr)(cap:Nat)(w:World) :Calls Tryz.prog 54 #[.slice a 0 cap] w (Kd w 0 []) :=by
 have NC:=ad (se a 0 cap [] w (.inl rfl) rfl (by omega));go_enter Tryz.func54,Tryz.ntmps54;go_wp2_with fail;refine NC.out.mono ?_;rintro e w1 ⟨v,rfl,ho,b1⟩;obtain⟨g,c,rfl,hn,hc,hm,hi,hx⟩:=bY.bJ ho;have FZ:=ad (Jw ho);have HC:=ad hc;have HM:=ad hm;have B1:=ad b1;clear ho b1 hn hc hm hi hx NC;go_wp2_with fail;refine(Eo g c w1).mono ?_;rintro e w2 ⟨rfl,rfl⟩;go_wp2_with fail;refine(tG g 0 c [] w2 (.inl rfl) rfl (by omega)).mono ?_;rintro e w3 ⟨mS,NS,FS,rfl,hS,hC,hb,b3⟩;have B3:=ad b3;clear hS hC hb b3;go_wp2_with (first| (refine bH rfl _ rfl (.int .i64) ?_;intro w4 m4 b4;have B4:=ad (ar B3.out b4);clear m4 b4));go_loopw [19] (fun i wr=>i= .int .i64 0/\wr=w4) (fun _ _=>0)
 case atStart=>exact⟨rfl,rfl⟩
 case round=>
  obtain⟨rfl,rfl⟩:=hrel;go_wp2;go_ret;refine⟨g,c,[],rfl,⟨rfl,HC.out,HM.out,.inl rfl,(fun _ h=>by cases h)⟩,rfl,(fun _ h=>by cases h),(fun x hx=>?_),ar B1.out B4.out⟩;obtain⟨h1,h2,h3,h4⟩:=FZ.out x hx;exact⟨h1,h2,fG h4 (B4.out.block _ h3)⟩
set_option maxRecDepth 100000 in
theorem tf (a:Option Addr)(n cap:Nat)(ys:List aL)(w:World)(ha:br w a n cap ys)(h40:n<=1000) :Calls Tryz.prog 54 #[.slice a n cap] w (Kd w n ys) :=by
 by_cases h0:n=0
 ·subst h0;obtain rfl:ys= [] :=List.length_eq_zero_iff.1 ha.n;exact Ck a cap w
 have HN:=ad ha.n;have HS:=ad ha.s;have NZ:=ad Bm;have NO:=ad Cm;have ZI:Hid ((Tryz.prog.info? 3).map (·.zero) =some (some (.int .i64 0))) :=by show _=_;kernel_rfl
 have S1:Hid ((Tryz.prog.info? 3).map (·.size) =some 1) :=by show _=_;kernel_rfl
 have S30:Hid ((Tryz.prog.info? 25).map (·.size) =some 1) :=by show _=_;kernel_rfl
 have UM:=ad Tryz.underlying171;have UK:=ad Tryz.underlying3;have NC:=ad (se a n cap ys w ha.r ha.n (by omega));have H40:=ad h40;have H0:=ad h0;clear ha h0;go_enter Tryz.func54,Tryz.ntmps54;go_wp2_with fail;refine NC.out.mono ?_;rintro e w1 ⟨v,rfl,ho,b1⟩;obtain⟨g,gc,rfl,hc,hm,hg,hgl,hat1,hfz1⟩:=uy ho H0.out;have GC:=ad hc;have GM:=ad hm;have GW:=ad hg;have B1:=ad b1;have SO:=ad (Ex g n gc ys w1 hat1 hfz1 hgl HN.out H40.out);have GL1:=ad hgl;clear ho b1 NC hc hm hg hat1 hfz1 hgl;go_wp2_with fail;refine SO.out.mono ?_;rintro e w2 ⟨rfl,zs,hz,hzm,hzl,hat2,hfz2,on2⟩;have ZS:=ad hz;have ZM:=ad hzm;have ZL:=ad hzl;have AT2:=ad hat2;have FZ2:=ad hfz2;have B2:=ad (B1.out.trans (on2.below (fun k hk=>by rw[hk];exact GW.out) B1.out.size));have GL2:Hid (g<w2.heap.size) :=Nat.lt_of_lt_of_le GL1.out on2.size;have CN:=ad (tG (some ⟨g,0,none⟩) n gc zs w2 (.inr ⟨g,0,rfl,GL2.out,hat2⟩) hzl (by omega));clear hz hzm hzl hat2 hfz2 on2 SO;go_wp2_with fail;refine CN.out.mono ?_;rintro e w3 ⟨mS,NS,FS,rfl,hS,hC,hb,b3⟩;have S3:=ad hS;have SC:=ad hC;have SG:Hid (g≠mS) :=by have:=GL2.out;show _≠_;omega
 have SL3:=ad hS.lt;have AT3:=ad (AT2.out.below b3 GL2.out);have FZ3:=ad (fG FZ2.out (b3.block g GL2.out));have B3:=ad (ar B2.out b3);have GL3:Hid (g<w3.heap.size) :=Nat.lt_of_lt_of_le GL2.out b3.size;clear hS hC hb b3 CN;go_wp2_with (first| (refine bH rfl _ rfl (.int .i64) ?_;intro w4 m4 b4;have M4:=ad m4;have S4:=ad (S3.out.below b4 SL3.out);have AT4:=ad (AT3.out.below b4 GL3.out);have FZ4:=ad (fG FZ3.out (b4.block g GL3.out));have B4:=ad (ar B3.out b4);have ML4:=ad m4.lt;clear m4 b4));obtain⟨mN,hmN⟩:∃mN,mN=w3.heap.size:=⟨_,rfl⟩;obtain⟨B,hBB⟩:=named w4.heap.size;have GN:Hid (g≠mN) :=by have:=GL3.out;show _≠_;omega
 have SN:Hid (mS≠mN) :=by have:=SL3.out;show _≠_;omega
 have NB:Hid (mN<B) :=by have:=ML4.out;have:=hBB.out;show _<_;omega
 have GB:Hid (g<B) :=by have:=GL3.out;have:=ML4.out;have:=hBB.out;show _<_;omega
 have SB:Hid (mS<B) :=by have:=SL3.out;have:=ML4.out;have:=hBB.out;show _<_;omega
 have CW:Hid (w.heap.size<=mN) :=by have:=B3.out.size;show _<=_;omega
 rw[<- hmN]at M4⊢;obtain⟨S,hSS⟩:∃S,S=cs (aI zs) :=⟨_,rfl⟩;have SLN:Hid (S.length=n) :=by show _=_;rw[hSS];unfold cs;rw[List.length_map,bg,ZL.out]
 have SS:=ad hSS;clear hmN hSS AT3 FZ3 S3 AT2 FZ2 B1 B2 B3 GL1 GL2 GL3 SL3 ML4;go_loopw [19] (fun i wr=>∃(j N:Nat) (F:Value->Option Value) (us:List aL),i= .int .i64 j/\j<=n/\Pd B zs us j wr/\cL wr g 0 us/\ (∀k,wr.frozen? ⟨g,k,none⟩=false)/\dP wr mN (.int .i64) N F/\N= (bX S j).length/\zp F S j/\Kp w.heap.size B g mN w4 wr) (fun i _=>n- (intOf i).toNat)
 case atStart=>exact⟨0,0,_,zs,rfl,Nat.zero_le _,⟨rfl,fun i _ h=>by omega,fun _ _=>rfl⟩,AT4.out,FZ4.out,M4.out,rfl,fun c=>rfl,Kp.refl _ _ _ _ _⟩
 case round=>
  obtain⟨j,N,F,us,rfl,hj,hst,hat,hfz,hM,hNN,hNu,hK⟩:=hrel;by_cases hjn:j<n
  ·have hlt:j<zs.length:=by rw[ZL.out];exact hjn
   obtain⟨y,ey⟩:∃y,y=zs[j] :=⟨_,rfl⟩;have hz:zs[j]? =some y:=by rw[ey];exact List.getElem?_eq_getElem hlt
   have hu:us[j]? =some y:=by rw[hst.rest j ah];exact hz
   have hym:y∈ys:=ZM.out y (List.mem_of_getElem? hz);have hy:=HS.out y hym;have SJ:Hid (∃h:j<S.length,S[j] =y.n.c) :=List.getElem?_eq_some_iff.mp (by rw[SS.out];unfold cs;rw[List.getElem?_map,gj hz];rfl);have CTJ:Hid (Bx zs n y.n.c=S.count y.n.c) :=by show _=_;rw[JX ZL.out,SS.out]
   have HZ:=ad hz;have HU:=ad hu;have ST:=ad hst;have AT:=ad hat;have FZ:=ad hfz;have HM:=ad hM;have HNN:=ad hNN;have HNu:=ad hNu;have KK:=ad hK;have UL:Hid (j<us.length) :=by rw[hst.len];exact hlt
   have BW:Hid (Below w.heap.size w wr) :=B4.out.trans hK.jV;have BC:Hid (∀w',Below w.heap.size w w'->Calls Tryz.prog 41 #[.slice y.a y.n.d.length y.cap] w' fun e w''=>∃v,e= .returned v/\w''.ownsRow w'.heap.size 5 1 v y.n.d.length (y.n.d.map (.int .u8))/\Below w'.heap.size w' w'') :=fun w' hb=>lO _ _ _ _ _ (hy.d.Bu.below hb) rfl hy.l;have FSC:=ad (SC.out y.n.c);have WB:Hid (B<=wr.heap.size) :=by have:=hBB.out;have:=hK.sz;show _<=_;omega
   obtain⟨c0,c1,c2,c3,c4,c5⟩:=hat.c hu;clear hst hat hfz hM hNN hNu hK hlt ey hz hu hym hy;obtain⟨⟨k,p,m,t,d,c⟩,x,xc⟩:=y;obtain⟨L,hL⟩:=named d.length;obtain⟨M,hM⟩:=named (Bx zs n c);have BC:Hid (∀w',Below w.heap.size w w'->Calls Tryz.prog 41 #[.slice x L xc] w' fun e w''=>∃v,e= .returned v/\w''.ownsRow w'.heap.size 5 1 v L (d.map (.int .u8))/\Below w'.heap.size w' w'') :=by rw[hL.out];exact BC
   have FSC:Hid ((FS (.int .i64 c)).getD (.int .i64 0) = .int .i64 M) :=by rw[hM.out];exact FSC
   have CTJ:Hid (M=S.count c) :=hM.out.trans CTJ.out;have SJ:Hid (∃h:j<S.length,S[j] =c) :=SJ;have c4':wr.cell? ⟨g,0+j*6+4,none⟩=some (.slice x L xc) :=by rw[hL.out];exact c4
   simp only[Nat.zero_add]at c0 c1 c2 c3 c4' c5;clear c4 hM;have j1: (j:Int) <n:=by omega
   have gcj: (n:Int)<=gc:=by have:=GC.out;omega
   clear hjn;go_wp2_with (first| (refine ag rfl 77 rfl (bq 0 emp 0 emp none 0 0 0) NZ.out ?_;intro w5 g5 b5;have G5:=ad g5;have B5:=ad b5;clear g5 b5 c0 c1 c2 c3 c4' c5) | (refine ae rfl 77 _ _ rfl wr.heap.size rfl (bq k p m t x L xc c) (bq 0 emp 0 emp none 0 0 0) rfl 77 G5.out NO.out.2 rfl (bE _ _ _ _ _ _ _ _) ?_;intro w6 g6 t6;have G6:=ad g6;have B6:=ad (B5.out.trans (t6.below ah));have c4:=g6.get 4 rfl;clear g6 t6));have K6:=ad (Kp.aq (C:=w.heap.size) (B:=B) (g:=g) (m:=mN) B6.out WB.out (by have:=BW.out.size;omega));have GR:Hid (g<wr.heap.size) :=Nat.lt_of_lt_of_le GB.out WB.out;have M6:=ad (HM.out.below B6.out HM.out.lt);have AT6:=ad (AT.out.below B6.out GR.out);have FZ6:=ad (fG FZ.out (B6.out.block g GR.out));have GR6:Hid (g<w6.heap.size) :=Nat.lt_of_lt_of_le GR.out B6.out.size;refine(BC.out w6 (BW.out.trans K6.out.jV)).mono ?_;rintro e w7 ⟨v7,rfl,o7,b7⟩;obtain⟨x7,xc7,rfl,_,_,_,_,_⟩:=bl o7;have K7:=ad (K6.out.trans (Kp.aq b7 (by have:=WB.out;have:=B6.out.size;omega) (by have:=BW.out.size;have:=B6.out.size;omega)))
   have FR7:Hid (∀c',iq B w7 ⟨⟨k,p,m,t,d,c'⟩,x7,xc7⟩) :=fun c'=>by
    unfold iq;show w7.ownsRow B _ 1 (.slice x7 d.length xc7) d.length (d.map (.int .u8));rw[<- hL.out];exact eg o7 (by have:=WB.out;have:=B6.out.size;omega)
   have AT7:=ad (AT6.out.below b7 GR6.out);have FZ7:=ad (fG FZ6.out (b7.block g GR6.out));have M7:=ad (M6.out.below b7 M6.out.lt);have G7:=ad (G6.out.below b7 G6.out.lt);clear o7 b7 c4 BC AT M6 AT6 FZ6 FZ HM;by_cases hc:c<=0
   ·have NM:Hid (¬dy S c) :=fun h=>by have:=h.1;omega
    have R0:Hid (num S c=0) :=by show _=_;unfold num;rw[if_neg NM.out]
    go_wp2_with (first| (refine bu rfl 25 _ _ rfl g _ rfl (.slice x7 L xc7) rfl rfl S30.out us j 4 ⟨⟨k,p,m,t,d,c⟩,x,xc⟩ ⟨⟨k,p,m,t,d,c⟩,x7,xc7⟩ (by omega) HU.out AT7.out FZ7.out (by rw[hL.out];rfl) (AH _ _ _ _ _) ?_;intro w8 a8 f8 t8;have AT8:=ad a8;have FZ8:=ad f8;have K8:=ad (K7.out.trans (Kp.dS t8 GB.out GW.out));have G8:=ad (G7.out.aK t8 (Nat.ne_of_gt GR.out));have M8:=ad (M7.out.block (t8.other (Ne.symm GN.out)));have FR8:Hid (∀c',iq B w8 ⟨⟨k,p,m,t,d,c'⟩,x7,xc7⟩) :=fun c'=>bx (FR7.out c') t8 GB.out;clear a8 f8 t8) | (refine bu rfl 3 _ _ rfl g _ rfl (.int .i64 0) rfl rfl S1.out (us.set j ⟨⟨k,p,m,t,d,c⟩,x7,xc7⟩) j 5 ⟨⟨k,p,m,t,d,c⟩,x7,xc7⟩ ⟨⟨k,p,m,t,d,0⟩,x7,xc7⟩ (by omega) (List.getElem?_set_self UL.out) AT8.out FZ8.out rfl (rE ⟨k,p,m,t,d,c⟩ x7 xc7 0) ?_;intro w9 a9 f9 t9;rw[List.set_set]at a9;have AT9:=ad a9;have FZ9:=ad f9;have K9:=ad (K8.out.trans (Kp.dS t9 GB.out GW.out));have G9:=ad (G8.out.aK t9 (Nat.ne_of_gt GR.out));have M9:=ad (M8.out.block (t9.other (Ne.symm GN.out)));have c5:=G9.out.get 5 rfl;have FR9:Hid (∀c',iq B w9 ⟨⟨k,p,m,t,d,c'⟩,x7,xc7⟩) :=fun c'=>bx (FR8.out c') t9 GB.out;clear a9 f9 t9))
    go_round
    case rel=>
     have hs:=HNu.out.stay SJ.out.1 (.inl (by rw[SJ.out.2];exact NM.out));exact⟨j+1,N,F,_,by go_num,by omega,ST.out.next K9.out HZ.out (by show(⟨k,p,m,t,d,0⟩:Nd) =⟨k,p,m,t,d,num _ c⟩;rw[<- SS.out,R0.out]) (FR9.out 0) _ (List.length_set ..) (List.getElem?_set_self UL.out) (fun i hi=>List.getElem?_set_ne (Ne.symm hi)),AT9.out,FZ9.out,M9.out,by rw[hs.2];exact HNN.out,hs.1,KK.out.trans K9.out⟩
    case measure=>simp[intOf];omega
   ·have CP:Hid (0<c) :=by show _<_;omega
    by_cases hm1:M=1
    ·subst hm1;have NM:Hid (¬dy S c) :=fun h=>by have:=h.2;have:=CTJ.out;omega
     have R0:Hid (num S c=0) :=by show _=_;unfold num;rw[if_neg NM.out]
     go_wp2_with (first| (refine bu rfl 25 _ _ rfl g _ rfl (.slice x7 L xc7) rfl rfl S30.out us j 4 ⟨⟨k,p,m,t,d,c⟩,x,xc⟩ ⟨⟨k,p,m,t,d,c⟩,x7,xc7⟩ (by omega) HU.out AT7.out FZ7.out (by rw[hL.out];rfl) (AH _ _ _ _ _) ?_;intro w8 a8 f8 t8;have AT8:=ad a8;have FZ8:=ad f8;have K8:=ad (K7.out.trans (Kp.dS t8 GB.out GW.out));have G8:=ad (G7.out.aK t8 (Nat.ne_of_gt GR.out));have M8:=ad (M7.out.block (t8.other (Ne.symm GN.out)));have FR8:Hid (∀c',iq B w8 ⟨⟨k,p,m,t,d,c'⟩,x7,xc7⟩) :=fun c'=>bx (FR7.out c') t8 GB.out;clear a8 f8 t8) | (refine bu rfl 3 _ _ rfl g _ rfl (.int .i64 0) rfl rfl S1.out (us.set j ⟨⟨k,p,m,t,d,c⟩,x7,xc7⟩) j 5 ⟨⟨k,p,m,t,d,c⟩,x7,xc7⟩ ⟨⟨k,p,m,t,d,0⟩,x7,xc7⟩ (by omega) (List.getElem?_set_self UL.out) AT8.out FZ8.out rfl (rE ⟨k,p,m,t,d,c⟩ x7 xc7 0) ?_;intro w9 a9 f9 t9;rw[List.set_set]at a9;have AT9:=ad a9;have FZ9:=ad f9;have K9:=ad (K8.out.trans (Kp.dS t9 GB.out GW.out));have G9:=ad (G8.out.aK t9 (Nat.ne_of_gt GR.out));have M9:=ad (M8.out.block (t9.other (Ne.symm GN.out)));have c5:=G9.out.get 5 rfl;have FR9:Hid (∀c',iq B w9 ⟨⟨k,p,m,t,d,c'⟩,x7,xc7⟩) :=fun c'=>bx (FR8.out c') t9 GB.out;clear a9 f9 t9;obtain⟨_,qs⟩:=bI (P:=Tryz.prog) (w:=w9) 171 3 3 UM.out (.int .i64) UK.out (.int .i64 0) ZI.out mS NS (.int .i64 c) (show IsKey (.int .i64) (.int .i64 c)from rfl) FS (S4.out.block ((KK.out.trans K9.out).Fy mS SB.out (Ne.symm SG.out) SN.out));rw[FSC.out]at qs))
     go_round
     case rel=>
      have hs:=HNu.out.stay SJ.out.1 (.inl (by rw[SJ.out.2];exact NM.out));exact⟨j+1,N,F,_,by go_num,by omega,ST.out.next K9.out HZ.out (by show(⟨k,p,m,t,d,0⟩:Nd) =⟨k,p,m,t,d,num _ c⟩;rw[<- SS.out,R0.out]) (FR9.out 0) _ (List.length_set ..) (List.getElem?_set_self UL.out) (fun i hi=>List.getElem?_set_ne (Ne.symm hi)),AT9.out,FZ9.out,M9.out,by rw[hs.2];exact HNN.out,hs.1,KK.out.trans K9.out⟩
     case measure=>simp[intOf];omega
    ·have nm1:¬(M:Int) =1:=by omega
     have nm2: ((M:Int) ==1) =false:=by simpa using nm1
     have MN:Hid (dy S c) :=⟨CP.out,by
      have h1:0<S.count c:=List.count_pos_iff.mpr (by obtain⟨h,e⟩:=SJ.out;rw[<- e];exact List.getElem_mem h);have:=CTJ.out;omega⟩
     clear hm1;by_cases hin:c∈bX S j
     ·obtain⟨Z,hZ⟩:∃Z,Z=num S c:=⟨_,rfl⟩;have FNC:Hid (F (.int .i64 c) =some (.int .i64 Z)) :=by show _=_;rw[HNu.out c,if_pos hin,hZ]
      have HZN:=ad hZ;have IN:=ad hin;clear hZ hin;go_wp2_with (first| (refine bu rfl 25 _ _ rfl g _ rfl (.slice x7 L xc7) rfl rfl S30.out us j 4 ⟨⟨k,p,m,t,d,c⟩,x,xc⟩ ⟨⟨k,p,m,t,d,c⟩,x7,xc7⟩ (by omega) HU.out AT7.out FZ7.out (by rw[hL.out];rfl) (AH _ _ _ _ _) ?_;intro w8 a8 f8 t8;have AT8:=ad a8;have FZ8:=ad f8;have K8:=ad (K7.out.trans (Kp.dS t8 GB.out GW.out));have G8:=ad (G7.out.aK t8 (Nat.ne_of_gt GR.out));have M8:=ad (M7.out.block (t8.other (Ne.symm GN.out)));have FR8:Hid (∀c',iq B w8 ⟨⟨k,p,m,t,d,c'⟩,x7,xc7⟩) :=fun c'=>bx (FR7.out c') t8 GB.out;clear a8 f8 t8) | (refine bu rfl 3 _ _ rfl g _ rfl (.int .i64 0) rfl rfl S1.out (us.set j ⟨⟨k,p,m,t,d,c⟩,x7,xc7⟩) j 5 ⟨⟨k,p,m,t,d,c⟩,x7,xc7⟩ ⟨⟨k,p,m,t,d,0⟩,x7,xc7⟩ (by omega) (List.getElem?_set_self UL.out) AT8.out FZ8.out rfl (rE ⟨k,p,m,t,d,c⟩ x7 xc7 0) ?_;intro w9 a9 f9 t9;rw[List.set_set]at a9;have AT9:=ad a9;have FZ9:=ad f9;have K9:=ad (K8.out.trans (Kp.dS t9 GB.out GW.out));have G9:=ad (G8.out.aK t9 (Nat.ne_of_gt GR.out));have M9:=ad (M8.out.block (t9.other (Ne.symm GN.out)));have c5:=G9.out.get 5 rfl;have FR9:Hid (∀c',iq B w9 ⟨⟨k,p,m,t,d,c'⟩,x7,xc7⟩) :=fun c'=>bx (FR8.out c') t9 GB.out;clear a9 f9 t9;obtain⟨_,qs⟩:=bI (P:=Tryz.prog) (w:=w9) 171 3 3 UM.out (.int .i64) UK.out (.int .i64 0) ZI.out mS NS (.int .i64 c) (show IsKey (.int .i64) (.int .i64 c)from rfl) FS (S4.out.block ((KK.out.trans K9.out).Fy mS SB.out (Ne.symm SG.out) SN.out));rw[FSC.out]at qs;obtain⟨qn1,qn2⟩:=bI (P:=Tryz.prog) (w:=w9) 171 3 3 UM.out (.int .i64) UK.out (.int .i64 0) ZI.out mN N (.int .i64 c) (show IsKey (.int .i64) (.int .i64 c)from rfl) F M9.out;rw[FNC.out]at qn1 qn2;simp only[Option.getD_some,Option.isSome_some]at qn1 qn2) | (refine bu rfl 3 _ _ rfl g _ rfl (.int .i64 Z) rfl rfl S1.out (us.set j ⟨⟨k,p,m,t,d,0⟩,x7,xc7⟩) j 5 ⟨⟨k,p,m,t,d,0⟩,x7,xc7⟩ ⟨⟨k,p,m,t,d,Z⟩,x7,xc7⟩ (by omega) (List.getElem?_set_self UL.out) AT9.out FZ9.out rfl (rE ⟨k,p,m,t,d,0⟩ x7 xc7 Z) ?_;intro w12 a12 f12 t12;rw[List.set_set]at a12;have AT12:=ad a12;have FZ12:=ad f12;have K12:=ad (K9.out.trans (Kp.dS t12 GB.out GW.out));have M12:=ad (M9.out.block (t12.other (Ne.symm GN.out)));have FR12:Hid (∀c',iq B w12 ⟨⟨k,p,m,t,d,c'⟩,x7,xc7⟩) :=fun c'=>bx (FR9.out c') t12 GB.out;clear a12 f12 t12))
      go_round
      case rel=>
       have hs:=HNu.out.stay SJ.out.1 (.inr (by rw[SJ.out.2];exact IN.out));exact⟨j+1,N,F,_,by go_num,by omega,ST.out.next K12.out HZ.out (by show(⟨k,p,m,t,d,Z⟩:Nd) =⟨k,p,m,t,d,num _ c⟩;rw[<- SS.out,HZN.out]) (FR12.out Z) _ (List.length_set ..) (List.getElem?_set_self UL.out) (fun i hi=>List.getElem?_set_ne (Ne.symm hi)),AT12.out,FZ12.out,M12.out,by rw[hs.2];exact HNN.out,hs.1,KK.out.trans K12.out⟩
      case measure=>simp[intOf];omega
     ·obtain⟨Z,hZ⟩:∃Z:Int,Z= (N:Int) +1:=⟨_,rfl⟩;have FNC:Hid (F (.int .i64 c) =none) :=by show _=_;rw[HNu.out c,if_neg hin]
      have NL: (N:Int)<=1000:=by have h:=xf (l:=S) (n:=j) (by rw[SLN.out];omega);rw[<- HNN.out,SLN.out]at h;have:=H40.out;omega
      have HZN:=ad hZ;have IN:=ad hin;have RN:Hid (wr.heap.size≠mN) :=by have:=NB.out;have:=WB.out;show _≠_;omega
      clear hin hZ;go_wp2_with (first| (refine bu rfl 25 _ _ rfl g _ rfl (.slice x7 L xc7) rfl rfl S30.out us j 4 ⟨⟨k,p,m,t,d,c⟩,x,xc⟩ ⟨⟨k,p,m,t,d,c⟩,x7,xc7⟩ (by omega) HU.out AT7.out FZ7.out (by rw[hL.out];rfl) (AH _ _ _ _ _) ?_;intro w8 a8 f8 t8;have AT8:=ad a8;have FZ8:=ad f8;have K8:=ad (K7.out.trans (Kp.dS t8 GB.out GW.out));have G8:=ad (G7.out.aK t8 (Nat.ne_of_gt GR.out));have M8:=ad (M7.out.block (t8.other (Ne.symm GN.out)));have FR8:Hid (∀c',iq B w8 ⟨⟨k,p,m,t,d,c'⟩,x7,xc7⟩) :=fun c'=>bx (FR7.out c') t8 GB.out;clear a8 f8 t8) | (refine bu rfl 3 _ _ rfl g _ rfl (.int .i64 0) rfl rfl S1.out (us.set j ⟨⟨k,p,m,t,d,c⟩,x7,xc7⟩) j 5 ⟨⟨k,p,m,t,d,c⟩,x7,xc7⟩ ⟨⟨k,p,m,t,d,0⟩,x7,xc7⟩ (by omega) (List.getElem?_set_self UL.out) AT8.out FZ8.out rfl (rE ⟨k,p,m,t,d,c⟩ x7 xc7 0) ?_;intro w9 a9 f9 t9;rw[List.set_set]at a9;have AT9:=ad a9;have FZ9:=ad f9;have K9:=ad (K8.out.trans (Kp.dS t9 GB.out GW.out));have G9:=ad (G8.out.aK t9 (Nat.ne_of_gt GR.out));have M9:=ad (M8.out.block (t9.other (Ne.symm GN.out)));have c5:=G9.out.get 5 rfl;have FR9:Hid (∀c',iq B w9 ⟨⟨k,p,m,t,d,c'⟩,x7,xc7⟩) :=fun c'=>bx (FR8.out c') t9 GB.out;clear a9 f9 t9;obtain⟨_,qs⟩:=bI (P:=Tryz.prog) (w:=w9) 171 3 3 UM.out (.int .i64) UK.out (.int .i64 0) ZI.out mS NS (.int .i64 c) (show IsKey (.int .i64) (.int .i64 c)from rfl) FS (S4.out.block ((KK.out.trans K9.out).Fy mS SB.out (Ne.symm SG.out) SN.out));rw[FSC.out]at qs;obtain⟨qn1,_⟩:=bI (P:=Tryz.prog) (w:=w9) 171 3 3 UM.out (.int .i64) UK.out (.int .i64 0) ZI.out mN N (.int .i64 c) (show IsKey (.int .i64) (.int .i64 c)from rfl) F M9.out;rw[FNC.out]at qn1;simp only[Option.getD_none,Option.isSome_none]at qn1;(have ql: (Builtin.len_ #[171] 3 #[.map (some mN)]).run Tryz.prog w9= .ok (.int .i64 (N:Int)) w9:=FO 171 3 3 3 UM.out (.int .i64) mN N F M9.out)) | (refine cE rfl 171 _ _ _ rfl 3 3 UM.out (.int .i64) UK.out mN rfl (.int .i64 c) rfl (show IsKey (.int .i64) (.int .i64 c)from rfl) (.int .i64 ((N:Int) +1)) rfl N F M9.out ?_;intro w10 m10 t10;rw[if_pos FNC.out,<- HZN.out]at m10;clear c5 qs qn1 ql;have M10:=ad m10;have AT10:=ad (AT9.out.block (t10.other GN.out));have FZ10:=ad (fG FZ9.out (t10.other GN.out));have K10:=ad (K9.out.trans (Kp.of_map t10 NB.out CW.out));have FR10:Hid (∀c',iq B w10 ⟨⟨k,p,m,t,d,c'⟩,x7,xc7⟩) := (fun c'=>bx (FR9.out c') t10 NB.out);have c5:= (G9.out.aK t10 RN.out).get 5 rfl;obtain⟨_,qq⟩:=bI (P:=Tryz.prog) (w:=w10) 171 3 3 UM.out (.int .i64) UK.out (.int .i64 0) ZI.out mN _ (.int .i64 c) (show IsKey (.int .i64) (.int .i64 c)from rfl) _ m10;rw[cP]at qq;simp only[Option.getD_some]at qq;clear m10 t10) | (refine bu rfl 3 _ _ rfl g _ rfl (.int .i64 Z) rfl rfl S1.out (us.set j ⟨⟨k,p,m,t,d,0⟩,x7,xc7⟩) j 5 ⟨⟨k,p,m,t,d,0⟩,x7,xc7⟩ ⟨⟨k,p,m,t,d,Z⟩,x7,xc7⟩ (by omega) (List.getElem?_set_self UL.out) AT10.out FZ10.out rfl (rE ⟨k,p,m,t,d,0⟩ x7 xc7 Z) ?_;intro w12 a12 f12 t12;rw[List.set_set]at a12;have AT12:=ad a12;have FZ12:=ad f12;have K12:=ad (K10.out.trans (Kp.dS t12 GB.out GW.out));have M12:=ad (M10.out.block (t12.other (Ne.symm GN.out)));have FR12:Hid (∀c',iq B w12 ⟨⟨k,p,m,t,d,c'⟩,x7,xc7⟩) :=fun c'=>bx (FR10.out c') t12 GB.out;clear a12 f12 t12))
      go_round
      case rel=>
       have hs:=HNu.out.more SJ.out.1 (by rw[SJ.out.2];exact MN.out) (by rw[SJ.out.2];exact IN.out)
       have hnn:num S c=Z:=by
        have:=uW SJ.out.1 (by rw[SJ.out.2];exact MN.out) (by rw[SJ.out.2];exact IN.out);rw[SJ.out.2,<- HNN.out,<- HZN.out]at this;exact this
       rw[SJ.out.2,<- HNN.out,<- HZN.out]at hs;exact⟨j+1,N+1,_,_,by go_num,by omega,ST.out.next K12.out HZ.out (by show(⟨k,p,m,t,d,Z⟩:Nd) =⟨k,p,m,t,d,num _ c⟩;rw[<- SS.out,hnn]) (FR12.out Z) _ (List.length_set ..) (List.getElem?_set_self UL.out) (fun i hi=>List.getElem?_set_ne (Ne.symm hi)),AT12.out,FZ12.out,M12.out,hs.2.symm,hs.1,KK.out.trans K12.out⟩
      case measure=>simp[intOf];omega
  ·obtain rfl:j=n:=by omega
   have EN:=ad hst;have AT:=ad hat;have FZ:=ad hfz;have KK:=ad hK;clear hst hat hfz hM hNN hNu hK;go_wp2;go_ret;have hen:=EN.out;have hzl:=ZL.out;subst hzl;obtain⟨e1,e2⟩:=hen.end_;refine⟨some ⟨g,0,none⟩,gc,us,rfl,⟨hen.len,GC.out,GM.out,.inr ⟨g,0,rfl,?_,AT.out⟩,fun u hu=>?_⟩,?_,fun u hu=>?_,fun x hx=>?_,B4.out.trans KK.out.jV⟩
   ·have:=GB.out;have:=hBB.out;have:=KK.out.sz;omega
   ·obtain⟨h1,z,h2,h3⟩:=e2 u hu;refine(HS.out z (ZM.out z h2)).fresh h3 h1 ?_;have:=Dx (cs (aI zs)) z.n.c;have hl: (cs (aI zs)).length=zs.length:=by unfold cs;rw[List.length_map,bg]
    have:=H40.out;omega
   ·rw[e1,ZS.out];rfl
   ·exact eg (e2 u hu).1 (by have:=CW.out;have:=NB.out;omega)
   ·cases hx
    exact⟨GW.out,rfl,FZ.out⟩
end Go.Proofs.YtcjagakckffkiaaGreatDoor.Tre
namespace Go.Proofs.YtcjagakckffkiaaGreatDoor.Flt
open Go.RowKit Go.MapKept Go.Proofs.YtcjagakckffkiaaGreatDoor.Fit Pnm Tre
theorem cX.only {S:Nat->Prop}{w w':World}{g:Nat}(t:cX w w' g)(h:S g) :aA S w w':=
 ⟨(t.below (Nat.zero_le _)).os,(t.below (Nat.zero_le _)).tape,(t.below (Nat.zero_le _)).output,(t.below (Nat.zero_le _)).size,fun _ _ hk=>t.other fun e=>hk (e▸h)⟩
theorem aB.only {S:Nat->Prop}{k:IntKind}{w w':World}{a:Option Addr}{len cap:Nat}{zs:List Int}(h:aB k w a len cap zs)(ho:aA S w w')(e:∀x,a=some x->¬S x.block) :aB k w' a len cap zs:=by
 obtain⟨h1,h2,h3,h4,h5⟩:=h;refine⟨h1,h2,h3,h4,h5.imp id ?_⟩;rintro⟨b,off,rfl,hb,hc⟩;refine⟨b,off,rfl,Nat.lt_of_lt_of_le hb ho.size,fun i hi=>?_⟩;have:=hc i hi;unfold World.cell? at this⊢;rw[ho.block b hb (e _ rfl)];exact this
theorem mC.only {S:Nat->Prop}{w w':World}{y:ft}(h:mC w y)(ho:aA S w w')(e:∀x,y.a=some x->¬S x.block) :mC w' y:=⟨h.k,h.p,h.m,h.t,h.s,aB.only h.d ho e,h.l⟩
theorem Od {B:Nat}{w:World}{y:aL}(h:iq B w y) :∀x,y.a=some x->B<=x.block:=fun x hx=>by
 obtain⟨h1,h2⟩:=h;rcases h2 with⟨hv,_⟩|⟨g,cap,cur,hv,hb,_⟩
 ·injection hv with e1 _ _;rw[hx]at e1;cases e1
 ·injection hv with e1 _ _;rw[hx]at e1;injection e1 with e1;subst e1;exact hb
def Ht (F:Value->Option Value)(C:List Nd)(j:Nat) :Prop:=∀c:Int,F (.int .i64 c) = (fr C j c).map fun y=> .string y.p
theorem Ht.zero (C:List Nd) :Ht (fun _=>none) C 0:=fun _=>rfl
theorem Ht.stay {F:Value->Option Value}{C:List Nd}{j:Nat}(h:Ht F C j)(hj:j<C.length)(hs: (∃y,fr C j (nd C j).c=some y)\/ (nd C j).c<=0) :Ht F C (j+1) :=fun c=>by
 rw[h c,zP hj];by_cases hc:0< (nd C j).c/\ (nd C j).c=c
 ·rw[if_pos hc];rcases hs with⟨y,hy⟩|hs
  ·rw[<- hc.2,hy];rfl
  ·exact absurd hc.1 (by omega)
 ·rw[if_neg hc]
  cases fr C j c<;>rfl
theorem Ht.more {F:Value->Option Value}{C:List Nd}{j:Nat}(h:Ht F C j)(hj:j<C.length)(hn:fr C j (nd C j).c=none)(hp:0< (nd C j).c) :Ht (rW F (.int .i64 (nd C j).c) (.string (nd C j).p)) C (j+1) :=fun c=>by
 rw[zP hj];by_cases hc: (nd C j).c=c
 ·subst hc;rw[cP,hn,if_pos ⟨hp,rfl⟩];rfl
 ·rw[eV (fun e=>hc (by injection e with _ e;exact e.symm)),h c,if_neg (fun e=>hc e.2)]
  cases fr C j c<;>rfl
noncomputable def iF (l:List Nd) :List Mb:=if(dA l).2=0 then oE (canon l)else []
structure El (S:Nat->Prop) (C:List Nd) (w:World) (i:Nat) (u:ft) :Prop where
 n:u.n=mb C i
 f:mC w u
 s:∀x,u.a=some x->¬S x.block
structure Rw (S:Nat->Prop) (C:List Nd) (w:World) (n:Nat) (us:List ft) (j:Nat) :Prop where
 len:us.length=n
 el:∀i,i<j->∃u,us[i]? =some u/\El S C w i u
theorem Rw.next {S:Nat->Prop}{C:List Nd}{w:World}{n:Nat}{us:List ft}{j:Nat}(h:Rw S C w n us j)(hj:j<n){u:ft}(hu:El S C w j u) :Rw S C w n (us.set j u) (j+1) :=by
 refine⟨by rw[List.length_set];exact h.len,fun i hi=>?_⟩;by_cases e:i=j
 ·subst e;exact⟨u,List.getElem?_set_self (by rw[h.len];exact hj),hu⟩
 ·rw[List.getElem?_set_ne (fun e'=>e e'.symm)];exact h.el i (by omega)
theorem Rw.done {S:Nat->Prop}{C:List Nd}{w w':World}{n:Nat}{us:List ft}(h:Rw S C w n us n)(hn:C.length=n)(ho:aA S w w') :qz us=oE C/\∀u∈us,mC w' u:=by
 constructor
 ·refine List.ext_getElem? fun i=>?_;by_cases hi:i<n
  ·obtain⟨u,h1,h2⟩:=h.el i hi;rw[rH h1,gp (by omega),h2.n]
  ·rw[List.getElem?_eq_none (by rw[lh,h.len];omega),List.getElem?_eq_none (by rw[dv];omega)]
 ·intro u hu;obtain⟨i,hi,rfl⟩:=List.getElem_of_mem hu;obtain⟨v,h1,h2⟩:=h.el i (by rw[<- h.len];exact hi);obtain rfl:us[i] =v:=Option.some.inj ((List.getElem?_eq_getElem hi).symm.trans h1);exact h2.f.only ho h2.s
theorem MY {S:Nat->Prop}{C:List Nd}{w:World}{i:Nat}{z:aL}(hC:Can C)(hi:i<C.length)(hz:nd C i=z.n)(hn:fr C i (nd C i).c=none)(hf:su w z)(hs:∀x,z.a=some x->¬S x.block) :
 El S C w i ⟨⟨⟨z.n.k,z.n.p,z.n.m,z.n.t,z.n.d.length⟩,z.n.d⟩,z.a,z.cap⟩:=by
 refine⟨?_,⟨hf.k,hf.p,hf.m,hf.t,?_,hf.d,hf.l⟩,hs⟩
 ·rw[dV hn];have o:=nw (hC.v.one _ (cK hi));unfold Fb iD;rw[hz]at o⊢;by_cases hk:z.n.k=1
  ·rw[if_pos hk]
  ·rw[if_neg hk,o.2.2.1 hk];rfl
 ·have:=hf.l;have e1:IntKind.i64.min= -9223372036854775808:=by decide
  have e2:IntKind.i64.max=9223372036854775807:=by decide
  simp[Lit.wf];omega
theorem On {S:Nat->Prop}{C:List Nd}{w:World}{i:Nat}{z:aL}{y:Nd}(hz:nd C i=z.n)(hy:fr C i (nd C i).c=some y)(hf:su w z)(hp:y.p.size<=140737488355328) :
 El S C w i ⟨⟨⟨3,z.n.p,z.n.m,y.p,0⟩,[]⟩,none,0⟩:=by
 refine⟨?_,⟨(show(Lit.int .i64 3).wf=true by decide),hf.p,hf.m,hp,(show(Lit.int .i64 0).wf=true by decide),aB.nil,Nat.zero_le _⟩,fun x hx=>by cases hx⟩;rw[dU hy,hz];rfl
end Go.Proofs.YtcjagakckffkiaaGreatDoor.Flt
namespace Go.Proofs.YtcjagakckffkiaaGreatDoor.Flt
open Go.RowKit
section
variable {P:Program} {w:World} {ops:Array Oper} {o:Oper} {a:Act} {Q:Exit->Act->World->Prop} {K:Act->World->Prop} {E:Prop}
theorem cg (hgd:o.guard=none)(T:TypeId)(x y:Operand)(ho:o.op= .store T x y)(g i:Nat)(hx:a.eval x= .pointer (some ⟨g,i,none⟩))
 (v:Value)(hy:a.eval y=v)(h1:v.oneCell'=true)(hs: (P.info? T).map (·.size) =some 1)(T':TypeId)(vs:List Value)(hg:ak w g T' vs)(hi:i<vs.length)
 (k:∀w',ak w' g T' (vs.set i v)->cX w w' g->K (a.put o.dst undef) w') :
 if Region.wanted o (yielded ops a.tmps) =true then Oper.wp P o a w K Q else E:=by
 have hw:Region.wanted o (yielded ops a.tmps) =true:=by simp[Region.wanted,hgd]
 rw[if_pos hw];have hc:w.cell? ⟨g,i,none⟩=some vs[i] :=hg.get i (List.getElem?_eq_getElem hi);have hf:=hg.frozen i;have hv:v.cells= #[v] :=by cases v<;>first|rfl| (simp[Value.oneCell']at h1)
 cases hq:P.info? T with
 |none=>simp[hq]at hs
 |some j=>
  have hj:j.size=1:=by simpa [hq]using hs
  have ha: (⟨g,i,none⟩:Addr).add 0=⟨g,i,none⟩:=dC g i 0
  have hrun: (storeVar T ⟨g,i,none⟩ v).run P w= .ok () (w.setCell ⟨g,i,none⟩ v) :=by
   simp[storeVar,sizeOf,typeInfo,hq,hj,hv,storeCells,run_store P w _ v _ h1,ha,hc,hf]
  unfold Oper.wp execOp;simp only[ho,hx,hy,Instr.storeAt,Instr.sureAddr,Sem.run_bind,Sem.run_pure,Result.andThen_ok,hrun];exact k _ (hg.set i v) ⟨fun hB=>aF.setCell hB v,fun hk=>Below.heap_setCell _ _ _ _ hk,by simp[World.setCell]⟩
theorem iE {T:TypeId}{n:Nat}(hT:ij P T n)(b off:Nat)(vs:List Value)(hl:vs.length=n)(hr:∀j u,vs[j]? =some u->w.cell? ⟨b,off+j,none⟩=some u) :
 (loadVar T ⟨b,off,none⟩).run P w= .ok (.agg vs.toArray) w:=by
 obtain⟨⟨fs,h1⟩,hs⟩:=hT;have hll:=run_loadCells_list (P:=P) w ⟨b,off,none⟩ vs (fun j u hj=>by rw[dC];exact hr j u hj);rw[hl]at hll
 cases hq:P.info? T with
 |none=>simp[hq]at hs
 |some i=>
  have hs:i.size=n:=by simpa [hq]using hs
  have hagg: (isAgg T).run P w= .ok true w:=by
   unfold isAgg;rw[Sem.run_bind,run_underlying h1 w];simp
  simp[loadVar,Sem.run_bind,hagg,sizeOf,typeInfo,hq,hs,hll]
theorem cz {rest:List Oper}(hgd:o.guard=none)(T:TypeId)(n:Nat)(hT:ij P T n)(x:Operand)(ho:o.op= .load T x)(b off:Nat)(hx:a.eval x= .pointer (some ⟨b,off,none⟩))(vs:List Value)(hl:vs.length=n)
 (hr:∀j u,vs[j]? =some u->w.cell? ⟨b,off+j,none⟩=some u)(K':wpList P ops Q rest (a.put o.dst (.agg vs.toArray)) w) :wpList P ops Q (o::rest) a w:=by
 refine wpList_plain hgd fun K hK=>?_;have hrun:=iE hT b off vs hl hr;unfold Oper.wp execOp;simp only[ho,hx,Instr.loadAt,Instr.sureAddr,Sem.run_bind,Sem.run_pure,Result.andThen_ok,hrun];exact hK _ _ K'
theorem cD (hgd:o.guard=none)(T:TypeId)(x:Operand)(ho:o.op= .load T x)(p:Addr)(hx:a.eval x= .pointer (some p))(v:Value)(hr: (loadVar T p).run P w= .ok v w)(k:K (a.put o.dst v) w) :
 if Region.wanted o (yielded ops a.tmps) =true then Oper.wp P o a w K Q else E:=by
 have hw:Region.wanted o (yielded ops a.tmps) =true:=by simp[Region.wanted,hgd]
 rw[if_pos hw];unfold Oper.wp execOp;simp only[ho,hx,Instr.loadAt,Instr.sureAddr,Sem.run_bind,Sem.run_pure,Result.andThen_ok,hr];exact k
end
end Go.Proofs.YtcjagakckffkiaaGreatDoor.Flt
namespace Go.Proofs.YtcjagakckffkiaaGreatDoor.Reb
open Go.RowKit Go.MapKept Go.Proofs.YtcjagakckffkiaaGreatDoor.Fit Pnm Tre Flt
structure pP (u:aL) :Prop where
 k: (Lit.int .i64 u.n.k).wf=true
 p:u.n.p.size<=140737488355328
 m: (Lit.int .i64 u.n.m).wf=true
 t:u.n.t.size<=140737488355328
 z:∀z∈u.n.d,(Lit.int .u8 z).wf=true
 l:u.n.d.length<=140737488355328
 c: (Lit.int .i64 u.n.c).wf=true
theorem pP.f {B:Nat}{w:World}{u:aL}(h:pP u)(hf:iq B w u) :su w u:=by
 obtain⟨b,cap',hv,hi,hc,hm,hl,hx⟩:=bl hf;injection hv with e1 _ e3;refine⟨h.k,h.p,h.m,h.t,?_,h.l,h.c⟩;rw[e1,e3];refine⟨rfl,hc,hm,h.z,?_⟩;rcases Nat.eq_zero_or_pos u.n.d.length with h0|h0
 ·exact .inl h0
 ·obtain⟨b',off,rfl,hlt⟩:=hi.plain h0;exact .inr ⟨b',off,rfl,hlt,fun i hi'=>hi.get i hi'⟩
theorem tE {S:Nat->Prop}{w w':World}{base n size:Nat}{e:TypeId}{v:Value}{xs:List Value}(h:w.ownsRow base e size v n xs)(ho:aA S w w')(hb:∀k,v.ownBlock=some k->¬S k) :w'.ownsRow base e size v n xs:=by
 obtain⟨h1,h2⟩:=h;refine⟨h1,h2.imp id ?_⟩;rintro⟨g,cap,cur,hv,hbg,hg,r⟩;have hlt:g<w.heap.size:= (Array.getElem?_eq_some_iff.1 hg).1;exact⟨g,cap,cur,hv,hbg,(ho.block g hlt (hb g (by rw[hv];rfl))).trans hg,r⟩
theorem eC {w:World}{base n cap size:Nat}{e:TypeId}{a:Option Addr}{xs:List Value}(_h:w.ownsRow base e size (.slice a n cap) n xs){S:Nat->Prop}(hS:∀x,a=some x->S x.block) :∀k,(Value.slice a n cap).ownBlock=some k->S k:=fun k hk=>by
 cases a with
 |none=>simp[Value.ownBlock]at hk
 |some x=>
  have e:x.block=k:=by simpa [Value.ownBlock]using hk
  exact e▸hS x rfl
structure PB (w:World) (g:Nat) (a:Option Addr) (cap gd gf Nd Nf:Nat) (Fd Ff:Value->Option Value) (us:List aL) (A:List Mb) :Prop where
 o:ak w g 153 [.slice a A.length cap,.map (some gd),.map (some gf)]
 r:w.ownsRow 0 77 6 (.slice a A.length cap) A.length (ax us)
 e:aI us=aV A
 s:∀u∈us,pP u/\iq 0 w u
 md:dP w gd .string Nd Fd
 fd:Fm Fd A 0 (fun _=> .bool true)
 mf:dP w gf .string Nf Ff
 ff:Fm Ff A 1 (fun r=> .int .i64 (r:Int))
 ne:gd≠gf
 ng:Gd A
structure Mf (S:Nat->Prop) (g:Nat) (a:Option Addr) (gd gf:Nat) (us:List aL) :Prop where
 g:S g
 d:S gd
 f:S gf
 r:∀x,a=some x->S x.block
 u:∀u∈us,∀x,u.a=some x->S x.block
def my (w:World)(S:Nat->Prop)(g:Nat)(A:List Mb) :Prop:=
 ∃a cap gd gf Nd Nf Fd Ff us,PB w g a cap gd gf Nd Nf Fd Ff us A/\Mf S g a gd gf us/\∀k,S k->k<w.heap.size
theorem Mf.mono {S T:Nat->Prop}{g gd gf:Nat}{a:Option Addr}{us:List aL}(h:Mf S g a gd gf us)(hST:∀k,S k->T k) :Mf T g a gd gf us:=
 ⟨hST _ h.g,hST _ h.d,hST _ h.f,fun x hx=>hST _ (h.r x hx),fun u hu x hx=>hST _ (h.u u hu x hx)⟩
theorem PB.only {S T:Nat->Prop}{w w':World}{g cap gd gf Nd Nf:Nat}{a:Option Addr}{Fd Ff:Value->Option Value}{us:List aL}{A:List Mb}(h:PB w g a cap gd gf Nd Nf Fd Ff us A)(hi:Mf S g a gd gf us)(ho:aA T w w')(hd:∀k,S k->¬T k) :PB w' g a cap gd gf Nd Nf Fd Ff us A:=
 ⟨h.o.only ho (hd _ hi.g),tE h.r ho fun k hk=>hd k (eC h.r hi.r k hk),h.e,fun u hu=>⟨(h.s u hu).1,tE (h.s u hu).2 ho fun k hk=>hd k (eC (h.s u hu).2 (hi.u u hu) k hk)⟩,h.md.block (ho.block _ h.md.lt (hd _ hi.d)),h.fd,h.mf.block (ho.block _ h.mf.lt (hd _ hi.f)),h.ff,h.ne,h.ng⟩
theorem PB.below {w w':World}{g cap gd gf Nd Nf:Nat}{a:Option Addr}{Fd Ff:Value->Option Value}{us:List aL}{A:List Mb}(h:PB w g a cap gd gf Nd Nf Fd Ff us A)(hb:Below w.heap.size w w') :PB w' g a cap gd gf Nd Nf Fd Ff us A:=
 h.only (S:=fun _=>True) ⟨trivial,trivial,trivial,fun _ _=>trivial,fun _ _ _ _=>trivial⟩ (aA.aq (S:=fun _=>False) hb ah) fun _ _ h=>h
theorem my.only {S T:Nat->Prop}{w w':World}{g:Nat}{A:List Mb}(h:my w S g A)(ho:aA T w w')(hd:∀k,S k->¬T k) :my w' S g A:=by
 obtain⟨a,cap,gd,gf,Nd,Nf,Fd,Ff,us,h1,h2,h3⟩:=h;exact⟨a,cap,gd,gf,Nd,Nf,Fd,Ff,us,h1.only h2 ho hd,h2,fun k hk=>Nat.lt_of_lt_of_le (h3 k hk) ho.size⟩
theorem my.below {S:Nat->Prop}{w w':World}{g:Nat}{A:List Mb}(h:my w S g A)(hb:Below w.heap.size w w') :my w' S g A:=
 h.only (aA.aq (S:=fun _=>False) hb ah) fun _ _ h=>h
theorem my.lt {S:Nat->Prop}{w:World}{g:Nat}{A:List Mb}(h:my w S g A) :∀k,S k->k<w.heap.size:=by
 obtain⟨a,cap,gd,gf,Nd,Nf,Fd,Ff,us,h1,h2,h3⟩:=h;exact h3
theorem PB.len {w:World}{g cap gd gf Nd Nf:Nat}{a:Option Addr}{Fd Ff:Value->Option Value}{us:List aL}{A:List Mb}(h:PB w g a cap gd gf Nd Nf Fd Ff us A) :us.length=A.length:=by
 rw[<- bg,h.e,dJ]
theorem PB.arg {w:World}{g cap gd gf Nd Nf:Nat}{a:Option Addr}{Fd Ff:Value->Option Value}{us:List aL}{A:List Mb}(h:PB w g a cap gd gf Nd Nf Fd Ff us A) :br w a A.length cap us:=by
 obtain⟨a',c',e,h'⟩:=br.bJ h.r fun u hu=> (h.s u hu).1.f (h.s u hu).2;injection e with e1 _ e3;subst e1;subst e3;exact h'
theorem PB.at_ {w:World}{g cap gd gf Nd Nf:Nat}{a:Option Addr}{Fd Ff:Value->Option Value}{us:List aL}{A:List Mb}(h:PB w g a cap gd gf Nd Nf Fd Ff us A){i:Nat}(hi:i<A.length) :
 ∃b u,a=some ⟨b,0,none⟩/\b<w.heap.size/\us[i]? =some u/\u.n=dQ A i/\pP u/\iq 0 w u/\cL w b 0 us:=by
 have hl:i<us.length:=by rw[h.len];exact hi
 have hu:us[i]? =some us[i] :=List.getElem?_eq_getElem hl;obtain⟨b,c,e,_,_,_,hb,hat,_⟩:=uy h.r (by omega);injection e with e1 _ _;subst e1;have hn: (aI us)[i]? = (aV A)[i]? :=by rw[h.e]
 rw[gj hu]at hn;unfold aV at hn;rw[List.getElem?_map,List.getElem?_range hi]at hn;have hs:=h.s _ (List.getElem_mem hl);exact⟨b,_,rfl,hb,hu,Option.some.inj hn,hs.1,hs.2,hat⟩
theorem my.nil {w:World}{S:Nat->Prop}{g gd gf:Nat}(ho:ak w g 153 [.slice none 0 0,.map (some gd),.map (some gf)])(hd:dP w gd .string 0 fun _=>none)(hf:dP w gf .string 0 fun _=>none)(ne:gd≠gf)(h1:S g)(h2:S gd)(h3:S gf)(hS:∀k,S k->k<w.heap.size) :my w S g [] :=
 ⟨none,0,gd,gf,0,0,_,_,[],⟨ho,⟨rfl,.inl ⟨rfl,rfl⟩⟩,rfl,(fun _ h=>by cases h),hd,Fm.nil 0 _,hf,Fm.nil 1 _,ne,uA⟩,⟨h1,h2,h3,(fun _ h=>by cases h),fun _ h=>by cases h⟩,hS⟩
end Go.Proofs.YtcjagakckffkiaaGreatDoor.Reb
