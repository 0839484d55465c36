import Derived.Test.YtcjagakckffkiaaGreatDoorS30
set_option maxHeartbeats 16000000
set_option maxRecDepth 100000
namespace Go.Proofs.YtcjagakckffkiaaGreatDoor
namespace Tre
open Go.RowKit Go.MapKept Go.Proofs.YtcjagakckffkiaaGreatDoor.Fit
def Cu (w:World)(n:Nat)(ys:List aP)(e:Ending)(w':World) :Prop:=
 ∃a c zs,e= .returned (.slice a n c)/\bA w' a n c zs/\ax zs=canon (ax ys)/\ (∀z∈zs,gx w.heap.size w' z)/\ (∀x,a=some x->w.heap.size<=x.block/\x.off=0/\∀k,w'.frozen? ⟨x.block,k,none⟩=false)/\Below w.heap.size w w'
theorem pS {w:World}{base n:Nat}{e:TypeId}{v:Value}{ys:List aP}(h:w.ownsRow base e 6 v n (bc ys))(h0:n≠0) :
 ∃g c,v= .slice (some ⟨g,0,none⟩) n c/\n<=c/\c<=maxLen/\base<=g/\g<w.heap.size/\bY w g 0 ys/\∀k,w.frozen? ⟨g,k,none⟩=false:=by
 obtain⟨a,c,hv,hn,hc,hm,hi,hx⟩:=cw.bG h;obtain⟨_,h2⟩:=h;rcases h2 with⟨_,h2⟩|⟨g,cap,cur,hv',hb,hh,_⟩
 ·exact absurd h2 h0
 ·subst hv;injection hv' with e1 _ e3;subst e1;subst e3;refine⟨g,c,rfl,hc,hm,hb,(hx _ rfl).2,?_,fun k=>by unfold World.frozen?;rw[hh];simp⟩;rcases hi with rfl|⟨b,off,hb',_,hat⟩
  ·exact absurd hn h0
  ·injection hb' with hb';injection hb' with e1 e2;subst e1;subst e2;exact hat
theorem AX {w:World}{base n c:Nat}{e:TypeId}{a:Option Addr}{xs:List Value}(h:w.ownsRow base e 6 (.slice a n c) n xs) :
 ∀x,a=some x->base<=x.block/\x.off=0/\x.block<w.heap.size/\∀k,w.frozen? ⟨x.block,k,none⟩=false:=by
 rintro x rfl;rcases h.2 with⟨hv,_⟩|⟨g,cap,cur,hv,hb,hh,_⟩
 ·cases hv
 ·injection hv with e1 _ _;injection e1 with e1;subst e1;exact⟨hb,rfl,(Array.getElem?_eq_some_iff.1 hh).1,fun k=>by unfold World.frozen?;rw[hh];simp⟩
theorem uX (a:Option Addr)(cap:Nat)(w:World) :Calls Tryz.prog 54 #[.slice a 0 cap] w (Cu w 0 []) :=by
 have NC:=aa (mO a 0 cap [] w (.inl rfl) rfl (by omega));go_enter Tryz.func54,Tryz.ntmps54;go_wp2_with fail;refine NC.out.mono ?_;rintro e w1 ⟨v,rfl,ho,b1⟩;obtain⟨g,c,rfl,hn,hc,hm,hi,hx⟩:=cw.bG ho;have FZ:=aa (AX ho);have HC:=aa hc;have HM:=aa hm;have B1:=aa b1;clear ho b1 hn hc hm hi hx NC;go_wp2_with fail;refine(yQ g c w1).mono ?_;rintro e w2 ⟨rfl,rfl⟩;go_wp2_with fail;refine(oB g 0 c [] w2 (.inl rfl) rfl (by omega)).mono ?_;rintro e w3 ⟨mS,NS,FS,rfl,hS,hC,hb,b3⟩;have B3:=aa b3;clear hS hC hb b3;go_wp2_with (first| (refine bo rfl _ rfl (.int .i64) ?_;intro w4 m4 b4;have B4:=aa (ar B3.out b4);clear m4 b4));go_loopw [19] (fun i wr=>i= .int .i64 0/\wr=w4) (fun _ _=>0)
 case atStart=>exact⟨rfl,rfl⟩
 case round=>
  obtain⟨rfl,rfl⟩:=hrel;go_wp2;go_ret;refine⟨g,c,[],rfl,⟨rfl,HC.out,HM.out,.inl rfl,(fun _ h=>by cases h)⟩,rfl,(fun _ h=>by cases h),(fun x hx=>?_),ar B1.out B4.out⟩;obtain⟨h1,h2,h3,h4⟩:=FZ.out x hx;exact⟨h1,h2,ew h4 (B4.out.block _ h3)⟩
theorem uW (a:Option Addr)(n cap:Nat)(ys:List aP)(w:World)(ha:bA w a n cap ys)(h40:n<=1000) :Calls Tryz.prog 54 #[.slice a n cap] w (Cu w n ys) :=by
 by_cases h0:n=0
 ·subst h0;obtain rfl:ys= [] :=List.length_eq_zero_iff.1 ha.n;exact uX a cap w
 have HN:=aa ha.n;have HS:=aa ha.s;have NZ:=aa zH;have NO:=aa zF;have ZI:Hid ((Tryz.prog.info? 3).map (·.zero) =some (some (.int .i64 0))) :=by show _=_;kernel_rfl
 have S1:Hid ((Tryz.prog.info? 3).map (·.size) =some 1) :=by show _=_;kernel_rfl
 have S30:Hid ((Tryz.prog.info? 25).map (·.size) =some 1) :=by show _=_;kernel_rfl
 have UM:=aa Tryz.underlying171;have UK:=aa Tryz.underlying3;have NC:=aa (mO a n cap ys w ha.r ha.n (by omega));have H40:=aa h40;have H0:=aa h0;clear ha h0;go_enter Tryz.func54,Tryz.ntmps54;go_wp2_with fail;refine NC.out.mono ?_;rintro e w1 ⟨v,rfl,ho,b1⟩;obtain⟨g,gc,rfl,hc,hm,hg,hgl,hat1,hfz1⟩:=pS ho H0.out;have GC:=aa hc;have GM:=aa hm;have GW:=aa hg;have B1:=aa b1;have SO:=aa (yP g n gc ys w1 hat1 hfz1 hgl HN.out H40.out);have GL1:=aa hgl;clear ho b1 NC hc hm hg hat1 hfz1 hgl;go_wp2_with fail;refine SO.out.mono ?_;rintro e w2 ⟨rfl,zs,hz,hzm,hzl,hat2,hfz2,on2⟩;have ZS:=aa hz;have ZM:=aa hzm;have ZL:=aa hzl;have AT2:=aa hat2;have FZ2:=aa hfz2;have B2:=aa (B1.out.trans (on2.below (fun k hk=>by rw[hk];exact GW.out) B1.out.size));have GL2:Hid (g<w2.heap.size) :=Nat.lt_of_lt_of_le GL1.out on2.size;have CN:=aa (oB (some ⟨g,0,none⟩) n gc zs w2 (.inr ⟨g,0,rfl,GL2.out,hat2⟩) hzl (by omega));clear hz hzm hzl hat2 hfz2 on2 SO;go_wp2_with fail;refine CN.out.mono ?_;rintro e w3 ⟨mS,NS,FS,rfl,hS,hC,hb,b3⟩;have S3:=aa hS;have SC:=aa hC;have SG:Hid (g≠mS) :=by have:=GL2.out;show _≠_;omega
 have SL3:=aa hS.lt;have AT3:=aa (AT2.out.below b3 GL2.out);have FZ3:=aa (ew FZ2.out (b3.block g GL2.out));have B3:=aa (ar B2.out b3);have GL3:Hid (g<w3.heap.size) :=Nat.lt_of_lt_of_le GL2.out b3.size;clear hS hC hb b3 CN;go_wp2_with (first| (refine bo rfl _ rfl (.int .i64) ?_;intro w4 m4 b4;have M4:=aa m4;have S4:=aa (S3.out.below b4 SL3.out);have AT4:=aa (AT3.out.below b4 GL3.out);have FZ4:=aa (ew FZ3.out (b4.block g GL3.out));have B4:=aa (ar B3.out b4);have ML4:=aa m4.lt;clear m4 b4));obtain⟨mN,hmN⟩:∃mN,mN=w3.heap.size:=⟨_,rfl⟩;obtain⟨B,hBB⟩:=named w4.heap.size;have GN:Hid (g≠mN) :=by have:=GL3.out;show _≠_;omega
 have SN:Hid (mS≠mN) :=by have:=SL3.out;show _≠_;omega
 have NB:Hid (mN<B) :=by have:=ML4.out;have:=hBB.out;show _<_;omega
 have GB:Hid (g<B) :=by have:=GL3.out;have:=ML4.out;have:=hBB.out;show _<_;omega
 have SB:Hid (mS<B) :=by have:=SL3.out;have:=ML4.out;have:=hBB.out;show _<_;omega
 have CW:Hid (w.heap.size<=mN) :=by have:=B3.out.size;show _<=_;omega
 rw[<- hmN]at M4⊢;obtain⟨S,hSS⟩:∃S,S=cs (ax zs) :=⟨_,rfl⟩;have SLN:Hid (S.length=n) :=by show _=_;rw[hSS];unfold cs;rw[List.length_map,aV,ZL.out]
 have SS:=aa hSS;clear hmN hSS AT3 FZ3 S3 AT2 FZ2 B1 B2 B3 GL1 GL2 GL3 SL3 ML4;go_loopw [19] (fun i wr=>∃(j N:Nat) (F:Value->Option Value) (us:List aP),i= .int .i64 j/\j<=n/\DE B zs us j wr/\bY wr g 0 us/\ (∀k,wr.frozen? ⟨g,k,none⟩=false)/\dG wr mN (.int .i64) N F/\N= (bC S j).length/\sj F S j/\Kp w.heap.size B g mN w4 wr) (fun i _=>n- (intOf i).toNat)
 case atStart=>exact⟨0,0,_,zs,rfl,Nat.zero_le _,⟨rfl,fun i _ h=>by omega,fun _ _=>rfl⟩,AT4.out,FZ4.out,M4.out,rfl,fun c=>rfl,Kp.refl _ _ _ _ _⟩
 case round=>
  obtain⟨j,N,F,us,rfl,hj,hst,hat,hfz,hM,hNN,hNu,hK⟩:=hrel;by_cases hjn:j<n
  ·have hlt:j<zs.length:=by rw[ZL.out];exact hjn
   obtain⟨y,ey⟩:∃y,y=zs[j] :=⟨_,rfl⟩;have hz:zs[j]? =some y:=by rw[ey];exact List.getElem?_eq_getElem hlt
   have hu:us[j]? =some y:=by rw[hst.rest j aj];exact hz
   have hym:y∈ys:=ZM.out y (List.mem_of_getElem? hz);have hy:=HS.out y hym;have SJ:Hid (∃h:j<S.length,S[j] =y.n.c) :=List.getElem?_eq_some_iff.mp (by rw[SS.out];unfold cs;rw[List.getElem?_map,eU hz];rfl);have CTJ:Hid (ve zs n y.n.c=S.count y.n.c) :=by show _=_;rw[zU ZL.out,SS.out]
   have HZ:=aa hz;have HU:=aa hu;have ST:=aa hst;have AT:=aa hat;have FZ:=aa hfz;have HM:=aa hM;have HNN:=aa hNN;have HNu:=aa hNu;have KK:=aa hK;have UL:Hid (j<us.length) :=by rw[hst.len];exact hlt
   have BW:Hid (Below w.heap.size w wr) :=B4.out.trans hK.nT;have BC:Hid (∀w',Below w.heap.size w w'->Calls Tryz.prog 41 #[.slice y.a y.n.d.length y.cap] w' fun e w''=>∃v,e= .returned v/\w''.ownsRow w'.heap.size 5 1 v y.n.d.length (y.n.d.map (.int .u8))/\Below w'.heap.size w' w'') :=fun w' hb=>kf _ _ _ _ _ (hy.d.vv.below hb) rfl hy.l;have FSC:=aa (SC.out y.n.c);have WB:Hid (B<=wr.heap.size) :=by have:=hBB.out;have:=hK.sz;show _<=_;omega
   obtain⟨c0,c1,c2,c3,c4,c5⟩:=hat.c hu;clear hst hat hfz hM hNN hNu hK hlt ey hz hu hym hy;obtain⟨⟨k,p,m,t,d,c⟩,x,xc⟩:=y;obtain⟨L,hL⟩:=named d.length;obtain⟨M,hM⟩:=named (ve zs n c);have BC:Hid (∀w',Below w.heap.size w w'->Calls Tryz.prog 41 #[.slice x L xc] w' fun e w''=>∃v,e= .returned v/\w''.ownsRow w'.heap.size 5 1 v L (d.map (.int .u8))/\Below w'.heap.size w' w'') :=by rw[hL.out];exact BC
   have FSC:Hid ((FS (.int .i64 c)).getD (.int .i64 0) = .int .i64 M) :=by rw[hM.out];exact FSC
   have CTJ:Hid (M=S.count c) :=hM.out.trans CTJ.out;have SJ:Hid (∃h:j<S.length,S[j] =c) :=SJ;have c4':wr.cell? ⟨g,0+j*6+4,none⟩=some (.slice x L xc) :=by rw[hL.out];exact c4
   simp only[Nat.zero_add]at c0 c1 c2 c3 c4' c5;clear c4 hM;have j1: (j:Int) <n:=by omega
   have gcj: (n:Int)<=gc:=by have:=GC.out;omega
   clear hjn;go_wp2_with (first| (refine ag rfl 77 rfl (cg 0 emp 0 emp none 0 0 0) NZ.out ?_;intro w5 g5 b5;have G5:=aa g5;have B5:=aa b5;clear g5 b5 c0 c1 c2 c3 c4' c5) | (refine ae rfl 77 _ _ rfl wr.heap.size rfl (cg k p m t x L xc c) (cg 0 emp 0 emp none 0 0 0) rfl 77 G5.out NO.out.2 rfl (dK _ _ _ _ _ _ _ _) ?_;intro w6 g6 t6;have G6:=aa g6;have B6:=aa (B5.out.trans (t6.below aj));have c4:=g6.get 4 rfl;clear g6 t6));have K6:=aa (Kp.aW (C:=w.heap.size) (B:=B) (g:=g) (m:=mN) B6.out WB.out (by have:=BW.out.size;omega));have GR:Hid (g<wr.heap.size) :=Nat.lt_of_lt_of_le GB.out WB.out;have M6:=aa (HM.out.below B6.out HM.out.lt);have AT6:=aa (AT.out.below B6.out GR.out);have FZ6:=aa (ew FZ.out (B6.out.block g GR.out));have GR6:Hid (g<w6.heap.size) :=Nat.lt_of_lt_of_le GR.out B6.out.size;refine(BC.out w6 (BW.out.trans K6.out.nT)).mono ?_;rintro e w7 ⟨v7,rfl,o7,b7⟩;obtain⟨x7,xc7,rfl,_,_,_,_,_⟩:=bj o7;have K7:=aa (K6.out.trans (Kp.aW b7 (by have:=WB.out;have:=B6.out.size;omega) (by have:=BW.out.size;have:=B6.out.size;omega)))
   have FR7:Hid (∀c',gx B w7 ⟨⟨k,p,m,t,d,c'⟩,x7,xc7⟩) :=fun c'=>by
    unfold gx;show w7.ownsRow B _ 1 (.slice x7 d.length xc7) d.length (d.map (.int .u8));rw[<- hL.out];exact gn o7 (by have:=WB.out;have:=B6.out.size;omega)
   have AT7:=aa (AT6.out.below b7 GR6.out);have FZ7:=aa (ew FZ6.out (b7.block g GR6.out));have M7:=aa (M6.out.below b7 M6.out.lt);have G7:=aa (G6.out.below b7 G6.out.lt);clear o7 b7 c4 BC AT M6 AT6 FZ6 FZ HM;by_cases hc:c<=0
   ·have NM:Hid (¬cR S c) :=fun h=>by have:=h.1;omega
    have R0:Hid (num S c=0) :=by show _=_;unfold num;rw[if_neg NM.out]
    go_wp2_with (first| (refine bh rfl 25 _ _ rfl g _ rfl (.slice x7 L xc7) rfl rfl S30.out us j 4 ⟨⟨k,p,m,t,d,c⟩,x,xc⟩ ⟨⟨k,p,m,t,d,c⟩,x7,xc7⟩ (by omega) HU.out AT7.out FZ7.out (by rw[hL.out];rfl) (uj _ _ _ _ _) ?_;intro w8 a8 f8 t8;have AT8:=aa a8;have FZ8:=aa f8;have K8:=aa (K7.out.trans (Kp.cH t8 GB.out GW.out));have G8:=aa (G7.out.aK t8 (Nat.ne_of_gt GR.out));have M8:=aa (M7.out.block (t8.other (Ne.symm GN.out)));have FR8:Hid (∀c',gx B w8 ⟨⟨k,p,m,t,d,c'⟩,x7,xc7⟩) :=fun c'=>aH (FR7.out c') t8 GB.out;clear a8 f8 t8) | (refine bh rfl 3 _ _ rfl g _ rfl (.int .i64 0) rfl rfl S1.out (us.set j ⟨⟨k,p,m,t,d,c⟩,x7,xc7⟩) j 5 ⟨⟨k,p,m,t,d,c⟩,x7,xc7⟩ ⟨⟨k,p,m,t,d,0⟩,x7,xc7⟩ (by omega) (List.getElem?_set_self UL.out) AT8.out FZ8.out rfl (mD ⟨k,p,m,t,d,c⟩ x7 xc7 0) ?_;intro w9 a9 f9 t9;rw[List.set_set]at a9;have AT9:=aa a9;have FZ9:=aa f9;have K9:=aa (K8.out.trans (Kp.cH t9 GB.out GW.out));have G9:=aa (G8.out.aK t9 (Nat.ne_of_gt GR.out));have M9:=aa (M8.out.block (t9.other (Ne.symm GN.out)));have c5:=G9.out.get 5 rfl;have FR9:Hid (∀c',gx B w9 ⟨⟨k,p,m,t,d,c'⟩,x7,xc7⟩) :=fun c'=>aH (FR8.out c') t9 GB.out;clear a9 f9 t9))
    go_round
    case rel=>
     have hs:=HNu.out.stay SJ.out.1 (.inl (by rw[SJ.out.2];exact NM.out));exact⟨j+1,N,F,_,by go_num,by omega,ST.out.next K9.out HZ.out (by show(⟨k,p,m,t,d,0⟩:Nd) =⟨k,p,m,t,d,num _ c⟩;rw[<- SS.out,R0.out]) (FR9.out 0) _ (List.length_set ..) (List.getElem?_set_self UL.out) (fun i hi=>List.getElem?_set_ne (Ne.symm hi)),AT9.out,FZ9.out,M9.out,by rw[hs.2];exact HNN.out,hs.1,KK.out.trans K9.out⟩
    case measure=>simp[intOf];omega
   ·have CP:Hid (0<c) :=by show _<_;omega
    by_cases hm1:M=1
    ·subst hm1;have NM:Hid (¬cR S c) :=fun h=>by have:=h.2;have:=CTJ.out;omega
     have R0:Hid (num S c=0) :=by show _=_;unfold num;rw[if_neg NM.out]
     go_wp2_with (first| (refine bh rfl 25 _ _ rfl g _ rfl (.slice x7 L xc7) rfl rfl S30.out us j 4 ⟨⟨k,p,m,t,d,c⟩,x,xc⟩ ⟨⟨k,p,m,t,d,c⟩,x7,xc7⟩ (by omega) HU.out AT7.out FZ7.out (by rw[hL.out];rfl) (uj _ _ _ _ _) ?_;intro w8 a8 f8 t8;have AT8:=aa a8;have FZ8:=aa f8;have K8:=aa (K7.out.trans (Kp.cH t8 GB.out GW.out));have G8:=aa (G7.out.aK t8 (Nat.ne_of_gt GR.out));have M8:=aa (M7.out.block (t8.other (Ne.symm GN.out)));have FR8:Hid (∀c',gx B w8 ⟨⟨k,p,m,t,d,c'⟩,x7,xc7⟩) :=fun c'=>aH (FR7.out c') t8 GB.out;clear a8 f8 t8) | (refine bh rfl 3 _ _ rfl g _ rfl (.int .i64 0) rfl rfl S1.out (us.set j ⟨⟨k,p,m,t,d,c⟩,x7,xc7⟩) j 5 ⟨⟨k,p,m,t,d,c⟩,x7,xc7⟩ ⟨⟨k,p,m,t,d,0⟩,x7,xc7⟩ (by omega) (List.getElem?_set_self UL.out) AT8.out FZ8.out rfl (mD ⟨k,p,m,t,d,c⟩ x7 xc7 0) ?_;intro w9 a9 f9 t9;rw[List.set_set]at a9;have AT9:=aa a9;have FZ9:=aa f9;have K9:=aa (K8.out.trans (Kp.cH t9 GB.out GW.out));have G9:=aa (G8.out.aK t9 (Nat.ne_of_gt GR.out));have M9:=aa (M8.out.block (t9.other (Ne.symm GN.out)));have c5:=G9.out.get 5 rfl;have FR9:Hid (∀c',gx B w9 ⟨⟨k,p,m,t,d,c'⟩,x7,xc7⟩) :=fun c'=>aH (FR8.out c') t9 GB.out;clear a9 f9 t9;obtain⟨_,qs⟩:=bE (P:=Tryz.prog) (w:=w9) 171 3 3 UM.out (.int .i64) UK.out (.int .i64 0) ZI.out mS NS (.int .i64 c) (show IsKey (.int .i64) (.int .i64 c)from rfl) FS (S4.out.block ((KK.out.trans K9.out).wL mS SB.out (Ne.symm SG.out) SN.out));rw[FSC.out]at qs))
     go_round
     case rel=>
      have hs:=HNu.out.stay SJ.out.1 (.inl (by rw[SJ.out.2];exact NM.out));exact⟨j+1,N,F,_,by go_num,by omega,ST.out.next K9.out HZ.out (by show(⟨k,p,m,t,d,0⟩:Nd) =⟨k,p,m,t,d,num _ c⟩;rw[<- SS.out,R0.out]) (FR9.out 0) _ (List.length_set ..) (List.getElem?_set_self UL.out) (fun i hi=>List.getElem?_set_ne (Ne.symm hi)),AT9.out,FZ9.out,M9.out,by rw[hs.2];exact HNN.out,hs.1,KK.out.trans K9.out⟩
     case measure=>simp[intOf];omega
    ·have nm1:¬(M:Int) =1:=by omega
     have nm2: ((M:Int) ==1) =false:=by simpa using nm1
     have MN:Hid (cR S c) :=⟨CP.out,by
      have h1:0<S.count c:=List.count_pos_iff.mpr (by obtain⟨h,e⟩:=SJ.out;rw[<- e];exact List.getElem_mem h);have:=CTJ.out;omega⟩
     clear hm1;by_cases hin:c∈bC S j
     ·obtain⟨Z,hZ⟩:∃Z,Z=num S c:=⟨_,rfl⟩;have FNC:Hid (F (.int .i64 c) =some (.int .i64 Z)) :=by show _=_;rw[HNu.out c,if_pos hin,hZ]
      have HZN:=aa hZ;have IN:=aa hin;clear hZ hin;go_wp2_with (first| (refine bh rfl 25 _ _ rfl g _ rfl (.slice x7 L xc7) rfl rfl S30.out us j 4 ⟨⟨k,p,m,t,d,c⟩,x,xc⟩ ⟨⟨k,p,m,t,d,c⟩,x7,xc7⟩ (by omega) HU.out AT7.out FZ7.out (by rw[hL.out];rfl) (uj _ _ _ _ _) ?_;intro w8 a8 f8 t8;have AT8:=aa a8;have FZ8:=aa f8;have K8:=aa (K7.out.trans (Kp.cH t8 GB.out GW.out));have G8:=aa (G7.out.aK t8 (Nat.ne_of_gt GR.out));have M8:=aa (M7.out.block (t8.other (Ne.symm GN.out)));have FR8:Hid (∀c',gx B w8 ⟨⟨k,p,m,t,d,c'⟩,x7,xc7⟩) :=fun c'=>aH (FR7.out c') t8 GB.out;clear a8 f8 t8) | (refine bh rfl 3 _ _ rfl g _ rfl (.int .i64 0) rfl rfl S1.out (us.set j ⟨⟨k,p,m,t,d,c⟩,x7,xc7⟩) j 5 ⟨⟨k,p,m,t,d,c⟩,x7,xc7⟩ ⟨⟨k,p,m,t,d,0⟩,x7,xc7⟩ (by omega) (List.getElem?_set_self UL.out) AT8.out FZ8.out rfl (mD ⟨k,p,m,t,d,c⟩ x7 xc7 0) ?_;intro w9 a9 f9 t9;rw[List.set_set]at a9;have AT9:=aa a9;have FZ9:=aa f9;have K9:=aa (K8.out.trans (Kp.cH t9 GB.out GW.out));have G9:=aa (G8.out.aK t9 (Nat.ne_of_gt GR.out));have M9:=aa (M8.out.block (t9.other (Ne.symm GN.out)));have c5:=G9.out.get 5 rfl;have FR9:Hid (∀c',gx B w9 ⟨⟨k,p,m,t,d,c'⟩,x7,xc7⟩) :=fun c'=>aH (FR8.out c') t9 GB.out;clear a9 f9 t9;obtain⟨_,qs⟩:=bE (P:=Tryz.prog) (w:=w9) 171 3 3 UM.out (.int .i64) UK.out (.int .i64 0) ZI.out mS NS (.int .i64 c) (show IsKey (.int .i64) (.int .i64 c)from rfl) FS (S4.out.block ((KK.out.trans K9.out).wL mS SB.out (Ne.symm SG.out) SN.out));rw[FSC.out]at qs;obtain⟨qn1,qn2⟩:=bE (P:=Tryz.prog) (w:=w9) 171 3 3 UM.out (.int .i64) UK.out (.int .i64 0) ZI.out mN N (.int .i64 c) (show IsKey (.int .i64) (.int .i64 c)from rfl) F M9.out;rw[FNC.out]at qn1 qn2;simp only[Option.getD_some,Option.isSome_some]at qn1 qn2) | (refine bh rfl 3 _ _ rfl g _ rfl (.int .i64 Z) rfl rfl S1.out (us.set j ⟨⟨k,p,m,t,d,0⟩,x7,xc7⟩) j 5 ⟨⟨k,p,m,t,d,0⟩,x7,xc7⟩ ⟨⟨k,p,m,t,d,Z⟩,x7,xc7⟩ (by omega) (List.getElem?_set_self UL.out) AT9.out FZ9.out rfl (mD ⟨k,p,m,t,d,0⟩ x7 xc7 Z) ?_;intro w12 a12 f12 t12;rw[List.set_set]at a12;have AT12:=aa a12;have FZ12:=aa f12;have K12:=aa (K9.out.trans (Kp.cH t12 GB.out GW.out));have M12:=aa (M9.out.block (t12.other (Ne.symm GN.out)));have FR12:Hid (∀c',gx B w12 ⟨⟨k,p,m,t,d,c'⟩,x7,xc7⟩) :=fun c'=>aH (FR9.out c') t12 GB.out;clear a12 f12 t12))
      go_round
      case rel=>
       have hs:=HNu.out.stay SJ.out.1 (.inr (by rw[SJ.out.2];exact IN.out));exact⟨j+1,N,F,_,by go_num,by omega,ST.out.next K12.out HZ.out (by show(⟨k,p,m,t,d,Z⟩:Nd) =⟨k,p,m,t,d,num _ c⟩;rw[<- SS.out,HZN.out]) (FR12.out Z) _ (List.length_set ..) (List.getElem?_set_self UL.out) (fun i hi=>List.getElem?_set_ne (Ne.symm hi)),AT12.out,FZ12.out,M12.out,by rw[hs.2];exact HNN.out,hs.1,KK.out.trans K12.out⟩
      case measure=>simp[intOf];omega
     ·obtain⟨Z,hZ⟩:∃Z:Int,Z= (N:Int) +1:=⟨_,rfl⟩;have FNC:Hid (F (.int .i64 c) =none) :=by show _=_;rw[HNu.out c,if_neg hin]
      have NL: (N:Int)<=1000:=by have h:=qB (l:=S) (n:=j) (by rw[SLN.out];omega);rw[<- HNN.out,SLN.out]at h;have:=H40.out;omega
      have HZN:=aa hZ;have IN:=aa hin;have RN:Hid (wr.heap.size≠mN) :=by have:=NB.out;have:=WB.out;show _≠_;omega
      clear hin hZ;go_wp2_with (first| (refine bh rfl 25 _ _ rfl g _ rfl (.slice x7 L xc7) rfl rfl S30.out us j 4 ⟨⟨k,p,m,t,d,c⟩,x,xc⟩ ⟨⟨k,p,m,t,d,c⟩,x7,xc7⟩ (by omega) HU.out AT7.out FZ7.out (by rw[hL.out];rfl) (uj _ _ _ _ _) ?_;intro w8 a8 f8 t8;have AT8:=aa a8;have FZ8:=aa f8;have K8:=aa (K7.out.trans (Kp.cH t8 GB.out GW.out));have G8:=aa (G7.out.aK t8 (Nat.ne_of_gt GR.out));have M8:=aa (M7.out.block (t8.other (Ne.symm GN.out)));have FR8:Hid (∀c',gx B w8 ⟨⟨k,p,m,t,d,c'⟩,x7,xc7⟩) :=fun c'=>aH (FR7.out c') t8 GB.out;clear a8 f8 t8) | (refine bh rfl 3 _ _ rfl g _ rfl (.int .i64 0) rfl rfl S1.out (us.set j ⟨⟨k,p,m,t,d,c⟩,x7,xc7⟩) j 5 ⟨⟨k,p,m,t,d,c⟩,x7,xc7⟩ ⟨⟨k,p,m,t,d,0⟩,x7,xc7⟩ (by omega) (List.getElem?_set_self UL.out) AT8.out FZ8.out rfl (mD ⟨k,p,m,t,d,c⟩ x7 xc7 0) ?_;intro w9 a9 f9 t9;rw[List.set_set]at a9;have AT9:=aa a9;have FZ9:=aa f9;have K9:=aa (K8.out.trans (Kp.cH t9 GB.out GW.out));have G9:=aa (G8.out.aK t9 (Nat.ne_of_gt GR.out));have M9:=aa (M8.out.block (t9.other (Ne.symm GN.out)));have c5:=G9.out.get 5 rfl;have FR9:Hid (∀c',gx B w9 ⟨⟨k,p,m,t,d,c'⟩,x7,xc7⟩) :=fun c'=>aH (FR8.out c') t9 GB.out;clear a9 f9 t9;obtain⟨_,qs⟩:=bE (P:=Tryz.prog) (w:=w9) 171 3 3 UM.out (.int .i64) UK.out (.int .i64 0) ZI.out mS NS (.int .i64 c) (show IsKey (.int .i64) (.int .i64 c)from rfl) FS (S4.out.block ((KK.out.trans K9.out).wL mS SB.out (Ne.symm SG.out) SN.out));rw[FSC.out]at qs;obtain⟨qn1,_⟩:=bE (P:=Tryz.prog) (w:=w9) 171 3 3 UM.out (.int .i64) UK.out (.int .i64 0) ZI.out mN N (.int .i64 c) (show IsKey (.int .i64) (.int .i64 c)from rfl) F M9.out;rw[FNC.out]at qn1;simp only[Option.getD_none,Option.isSome_none]at qn1;(have ql: (Builtin.len_ #[171] 3 #[.map (some mN)]).run Tryz.prog w9= .ok (.int .i64 (N:Int)) w9:=yM 171 3 3 3 UM.out (.int .i64) mN N F M9.out)) | (refine bT rfl 171 _ _ _ rfl 3 3 UM.out (.int .i64) UK.out mN rfl (.int .i64 c) rfl (show IsKey (.int .i64) (.int .i64 c)from rfl) (.int .i64 ((N:Int) +1)) rfl N F M9.out ?_;intro w10 m10 t10;rw[if_pos FNC.out,<- HZN.out]at m10;clear c5 qs qn1 ql;have M10:=aa m10;have AT10:=aa (AT9.out.block (t10.other GN.out));have FZ10:=aa (ew FZ9.out (t10.other GN.out));have K10:=aa (K9.out.trans (Kp.of_map t10 NB.out CW.out));have FR10:Hid (∀c',gx B w10 ⟨⟨k,p,m,t,d,c'⟩,x7,xc7⟩) := (fun c'=>aH (FR9.out c') t10 NB.out);have c5:= (G9.out.aK t10 RN.out).get 5 rfl;obtain⟨_,qq⟩:=bE (P:=Tryz.prog) (w:=w10) 171 3 3 UM.out (.int .i64) UK.out (.int .i64 0) ZI.out mN _ (.int .i64 c) (show IsKey (.int .i64) (.int .i64 c)from rfl) _ m10;rw[du]at qq;simp only[Option.getD_some]at qq;clear m10 t10) | (refine bh rfl 3 _ _ rfl g _ rfl (.int .i64 Z) rfl rfl S1.out (us.set j ⟨⟨k,p,m,t,d,0⟩,x7,xc7⟩) j 5 ⟨⟨k,p,m,t,d,0⟩,x7,xc7⟩ ⟨⟨k,p,m,t,d,Z⟩,x7,xc7⟩ (by omega) (List.getElem?_set_self UL.out) AT10.out FZ10.out rfl (mD ⟨k,p,m,t,d,0⟩ x7 xc7 Z) ?_;intro w12 a12 f12 t12;rw[List.set_set]at a12;have AT12:=aa a12;have FZ12:=aa f12;have K12:=aa (K10.out.trans (Kp.cH t12 GB.out GW.out));have M12:=aa (M10.out.block (t12.other (Ne.symm GN.out)));have FR12:Hid (∀c',gx B w12 ⟨⟨k,p,m,t,d,c'⟩,x7,xc7⟩) :=fun c'=>aH (FR10.out c') t12 GB.out;clear a12 f12 t12))
      go_round
      case rel=>
       have hs:=HNu.out.more SJ.out.1 (by rw[SJ.out.2];exact MN.out) (by rw[SJ.out.2];exact IN.out)
       have hnn:num S c=Z:=by
        have:=pP SJ.out.1 (by rw[SJ.out.2];exact MN.out) (by rw[SJ.out.2];exact IN.out);rw[SJ.out.2,<- HNN.out,<- HZN.out]at this;exact this
       rw[SJ.out.2,<- HNN.out,<- HZN.out]at hs;exact⟨j+1,N+1,_,_,by go_num,by omega,ST.out.next K12.out HZ.out (by show(⟨k,p,m,t,d,Z⟩:Nd) =⟨k,p,m,t,d,num _ c⟩;rw[<- SS.out,hnn]) (FR12.out Z) _ (List.length_set ..) (List.getElem?_set_self UL.out) (fun i hi=>List.getElem?_set_ne (Ne.symm hi)),AT12.out,FZ12.out,M12.out,hs.2.symm,hs.1,KK.out.trans K12.out⟩
      case measure=>simp[intOf];omega
  ·obtain rfl:j=n:=by omega
   have EN:=aa hst;have AT:=aa hat;have FZ:=aa hfz;have KK:=aa hK;clear hst hat hfz hM hNN hNu hK;go_wp2;go_ret;have hen:=EN.out;have hzl:=ZL.out;subst hzl;obtain⟨e1,e2⟩:=hen.end_;refine⟨some ⟨g,0,none⟩,gc,us,rfl,⟨hen.len,GC.out,GM.out,.inr ⟨g,0,rfl,?_,AT.out⟩,fun u hu=>?_⟩,?_,fun u hu=>?_,fun x hx=>?_,B4.out.trans KK.out.nT⟩
   ·have:=GB.out;have:=hBB.out;have:=KK.out.sz;omega
   ·obtain⟨h1,z,h2,h3⟩:=e2 u hu;refine(HS.out z (ZM.out z h2)).fresh h3 h1 ?_;have:=xQ (cs (ax zs)) z.n.c;have hl: (cs (ax zs)).length=zs.length:=by unfold cs;rw[List.length_map,aV]
    have:=H40.out;omega
   ·rw[e1,ZS.out];rfl
   ·exact gn (e2 u hu).1 (by have:=CW.out;have:=NB.out;omega)
   ·cases hx
    exact⟨GW.out,rfl,FZ.out⟩
end Tre
namespace Flt
open Go.RowKit Go.MapKept Go.Proofs.YtcjagakckffkiaaGreatDoor.Fit Pnm Tre
theorem dU.only {S:Nat->Prop}{w w':World}{g:Nat}(t:dU w w' g)(h:S g) :aZ S w w':=
 ⟨(t.below (Nat.zero_le _)).os,(t.below (Nat.zero_le _)).tape,(t.below (Nat.zero_le _)).output,(t.below (Nat.zero_le _)).size,fun _ _ hk=>t.other fun e=>hk (e▸h)⟩
theorem aX.only {S:Nat->Prop}{k:IntKind}{w w':World}{a:Option Addr}{len cap:Nat}{zs:List Int}(h:aX k w a len cap zs)(ho:aZ S w w')(e:∀x,a=some x->¬S x.block) :aX k w' a len cap zs:=by
 obtain⟨h1,h2,h3,h4,h5⟩:=h;refine⟨h1,h2,h3,h4,h5.imp id ?_⟩;rintro⟨b,off,rfl,hb,hc⟩;refine⟨b,off,rfl,Nat.lt_of_lt_of_le hb ho.size,fun i hi=>?_⟩;have:=hc i hi;unfold World.cell? at this⊢;rw[ho.block b hb (e _ rfl)];exact this
theorem qt.only {S:Nat->Prop}{w w':World}{y:dh}(h:qt w y)(ho:aZ S w w')(e:∀x,y.a=some x->¬S x.block) :qt w' y:=⟨h.k,h.p,h.m,h.t,h.s,aX.only h.d ho e,h.l⟩
theorem Db {B:Nat}{w:World}{y:aP}(h:gx B w y) :∀x,y.a=some x->B<=x.block:=fun x hx=>by
 obtain⟨h1,h2⟩:=h;rcases h2 with⟨hv,_⟩|⟨g,cap,cur,hv,hb,_⟩
 ·injection hv with e1 _ _;rw[hx]at e1;cases e1
 ·injection hv with e1 _ _;rw[hx]at e1;injection e1 with e1;subst e1;exact hb
def wC (F:Value->Option Value)(C:List Nd)(j:Nat) :Prop:=∀c:Int,F (.int .i64 c) = (fr C j c).map fun y=> .string y.p
theorem wC.zero (C:List Nd) :wC (fun _=>none) C 0:=fun _=>rfl
theorem wC.stay {F:Value->Option Value}{C:List Nd}{j:Nat}(h:wC F C j)(hj:j<C.length)(hs: (∃y,fr C j (nd C j).c=some y)\/ (nd C j).c<=0) :wC F C (j+1) :=fun c=>by
 rw[h c,ue hj];by_cases hc:0< (nd C j).c/\ (nd C j).c=c
 ·rw[if_pos hc];rcases hs with⟨y,hy⟩|hs
  ·rw[<- hc.2,hy];rfl
  ·exact absurd hc.1 (by omega)
 ·rw[if_neg hc]
  cases fr C j c<;>rfl
theorem wC.more {F:Value->Option Value}{C:List Nd}{j:Nat}(h:wC F C j)(hj:j<C.length)(hn:fr C j (nd C j).c=none)(hp:0< (nd C j).c) :wC (rZ F (.int .i64 (nd C j).c) (.string (nd C j).p)) C (j+1) :=fun c=>by
 rw[ue hj];by_cases hc: (nd C j).c=c
 ·subst hc;rw[du,hn,if_pos ⟨hp,rfl⟩];rfl
 ·rw[fG (fun e=>hc (by injection e with _ e;exact e.symm)),h c,if_neg (fun e=>hc e.2)]
  cases fr C j c<;>rfl
noncomputable def gQ (l:List Nd) :List Mb:=if(cA l).2=0 then uq (canon l)else []
def tx (w:World)(l:List Nd)(e:Ending)(w':World) :Prop:=
 ∃b k c us X1 X2,e= .returned (.tuple #[.slice b k c,.int .i64 X1,.int .i64 X2])/\X1= (cA l).1/\X2= (cA l).2/\dF w' b k c us/\wz us=gQ l/\Below w.heap.size w w'
theorem tx.bad {w w':World}{l:List Nd}{X1 X2:Int}(h1:X1= (cA l).1)(h2:X2= (cA l).2)(h0:X2≠0)(hb:Below w.heap.size w w') :tx w l (.returned (.tuple #[.slice none 0 0,.int .i64 X1,.int .i64 X2])) w':=
 ⟨none,0,0,[],X1,X2,rfl,h1,h2,⟨rfl,aj,Nat.zero_le _,.inl rfl,fun _ h=>by cases h⟩,by unfold gQ;rw[if_neg (by rw[<- h2];exact h0)];rfl,hb⟩
structure El (S:Nat->Prop) (C:List Nd) (w:World) (i:Nat) (u:dh) :Prop where
 n:u.n=mb C i
 f:qt w u
 s:∀x,u.a=some x->¬S x.block
structure Rw (S:Nat->Prop) (C:List Nd) (w:World) (n:Nat) (us:List dh) (j:Nat) :Prop where
 len:us.length=n
 el:∀i,i<j->∃u,us[i]? =some u/\El S C w i u
theorem Rw.next {S:Nat->Prop}{C:List Nd}{w:World}{n:Nat}{us:List dh}{j:Nat}(h:Rw S C w n us j)(hj:j<n){u:dh}(hu:El S C w j u) :Rw S C w n (us.set j u) (j+1) :=by
 refine⟨by rw[List.length_set];exact h.len,fun i hi=>?_⟩;by_cases e:i=j
 ·subst e;exact⟨u,List.getElem?_set_self (by rw[h.len];exact hj),hu⟩
 ·rw[List.getElem?_set_ne (fun e'=>e e'.symm)];exact h.el i (by omega)
theorem Rw.done {S:Nat->Prop}{C:List Nd}{w w':World}{n:Nat}{us:List dh}(h:Rw S C w n us n)(hn:C.length=n)(ho:aZ S w w') :wz us=uq C/\∀u∈us,qt w' u:=by
 constructor
 ·refine List.ext_getElem? fun i=>?_;by_cases hi:i<n
  ·obtain⟨u,h1,h2⟩:=h.el i hi;rw[pK h1,iS (by omega),h2.n]
  ·rw[List.getElem?_eq_none (by rw[lJ,h.len];omega),List.getElem?_eq_none (by rw[fi];omega)]
 ·intro u hu;obtain⟨i,hi,rfl⟩:=List.getElem_of_mem hu;obtain⟨v,h1,h2⟩:=h.el i (by rw[<- h.len];exact hi);obtain rfl:us[i] =v:=Option.some.inj ((List.getElem?_eq_getElem hi).symm.trans h1);exact h2.f.only ho h2.s
theorem Dn {S:Nat->Prop}{C:List Nd}{w:World}{i:Nat}{z:aP}(hC:Can C)(hi:i<C.length)(hz:nd C i=z.n)(hn:fr C i (nd C i).c=none)(hf:lP w z)(hs:∀x,z.a=some x->¬S x.block) :
 El S C w i ⟨⟨⟨z.n.k,z.n.p,z.n.m,z.n.t,z.n.d.length⟩,z.n.d⟩,z.a,z.cap⟩:=by
 refine⟨?_,⟨hf.k,hf.p,hf.m,hf.t,?_,hf.d,hf.l⟩,hs⟩
 ·rw[dz hn];have o:=kW (hC.v.one _ (cP hi));unfold vA gj;rw[hz]at o⊢;by_cases hk:z.n.k=1
  ·rw[if_pos hk]
  ·rw[if_neg hk,o.2.2.1 hk];rfl
 ·have:=hf.l;have e1:IntKind.i64.min= -9223372036854775808:=by decide
  have e2:IntKind.i64.max=9223372036854775807:=by decide
  simp[Lit.wf];omega
theorem Df {S:Nat->Prop}{C:List Nd}{w:World}{i:Nat}{z:aP}{y:Nd}(hz:nd C i=z.n)(hy:fr C i (nd C i).c=some y)(hf:lP w z)(hp:y.p.size<=140737488355328) :
 El S C w i ⟨⟨⟨3,z.n.p,z.n.m,y.p,0⟩,[]⟩,none,0⟩:=by
 refine⟨?_,⟨(show(Lit.int .i64 3).wf=true by decide),hf.p,hf.m,hp,(show(Lit.int .i64 0).wf=true by decide),aX.nil,Nat.zero_le _⟩,fun x hx=>by cases hx⟩;rw[eJ hy,hz];rfl
end Flt
end Go.Proofs.YtcjagakckffkiaaGreatDoor
