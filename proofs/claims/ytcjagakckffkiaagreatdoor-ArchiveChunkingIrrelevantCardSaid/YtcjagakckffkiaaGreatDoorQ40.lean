import Derived.Test.YtcjagakckffkiaaGreatDoorQ23
import Derived.Test.YtcjagakckffkiaaGreatDoorQ39
import Derived.Test.YtcjagakckffkiaaGreatDoorQ37
import Derived.Test.YtcjagakckffkiaaGreatDoorQ1
import Derived.Test.YtcjagakckffkiaaGreatDoorQ6
import Derived.Test.YtcjagakckffkiaaGreatDoorQ15
import Derived.Test.YtcjagakckffkiaaGreatDoorQ35
import Derived.Test.YtcjagakckffkiaaGreatDoorQ38
import Derived.Test.YtcjagakckffkiaaGreatDoorQ34
import Derived.Test.YtcjagakckffkiaaGreatDoorQ10
import Derived.Test.YtcjagakckffkiaaGreatDoorQ8
import Derived.Test.YtcjagakckffkiaaGreatDoorQ9
import Derived.Test.YtcjagakckffkiaaGreatDoorQ17
set_option maxHeartbeats 16000000
namespace Go.Proofs.YtcjagakckffkiaaGreatDoor.Arc
open Go.RowKit Go.Proofs.YtcjagakckffkiaaGreatDoor.Fit Pnm Tre Flt dO Reb
set_option maxRecDepth 100000 in
theorem CY {lo hi q:Nat}{Z:List Int}{E:Int}{o:Nat}(w:World)(h:eH w lo hi q Z E o 0)(hE:E=11\/E=4) :
 Calls Tryz.prog 38 #[.pointer (some ⟨q,0,none⟩)] w fun e w'=>∃x:Int,e= .returned (.tuple #[.int .i64 ((jX Z E [] o).p:Int),.int .i64 x])/\ (jX Z E [] o).e= (if x=4 then 5 else x)/\ (∃o' s',eH w' lo hi q Z E o' s')/\Out lo hi w w':=by
 obtain⟨R,hR⟩:=named (jX Z E [] o);rw[<- hR.out];have H:=ad h;have EE:=ad hE;have ZL:=ad h.bd.1;have NX:=ad (dh w h hE);obtain⟨V,hV⟩:=named (bM Z E o 0);obtain⟨O,hO⟩:=named (fu Z o 0);clear h hE;go_enter Tryz.func38,Tryz.ntmps38;go_wp2_with fail;refine NX.out.mono ?_;rintro e w2 ⟨b2,c2,rfl,l2,i2,x2,r2,u2⟩;rw[<- hV.out,<- hO.out]at r2;rw[<- hV.out];have R2:=ad r2;have U2:=ad u2;have I2:=ad i2;have L2:=ad l2;clear l2 i2 x2 r2 u2 NX;by_cases h0:V=0
 ·subst h0;have hg5:=QG EE.out hV.out.symm;obtain⟨g1,_,g3⟩:=fx (E:=E) hg5;obtain⟨B,hB⟩:=named ((Z.drop o).take 512);rw[<- hB.out]at g1;have OE:Hid (O=o+512) :=by show _=_;rw[hO.out,g3]
  have BL:Hid (B.length=512) :=by show _=_;rw[hB.out,List.length_take,List.length_drop];omega
  have I2':Hid (eJ .u8 w2 b2 B) :=by show eJ _ _ _ _;rw[<- g1];exact I2.out
  have hv0:=hV.out.symm;have RE0:Hid (R=jX Z E [] o) :=by show _=_;exact hR.out
  have RE1:Hid (¬dW B->R=⟨[],o,18⟩) :=by show _->_;intro z;rw[RE0.out,zd hv0 (by rw[<- hB.out];exact z)]
  have RE2:Hid (dW B->R=if bM Z E O 0=4 then⟨canon (aV []),O,0⟩else if bM Z E O 0=11 then⟨[],fu Z O 0,11⟩else⟨[],O,18⟩) :=by show _->_;intro z;rw[RE0.out,Gx hv0 (by rw[<- hB.out];exact z),OE.out]
  have OB: (O:Int)<=140737488355328:=by have h1:=R2.out.size.2.2.2;have h2:=ZL.out;omega
  have OM:IntKind.i64.wrap ((O:Int) - 512) = (o:Int) :=by
   have e:=OE.out;have: (O:Int) - 512= (o:Int) :=by omega
   rw[this];exact rQ (by omega) (by omega)
  clear hv0 RE0 hg5;rw[g1,BL.out];clear g1 g3 I2 L2
  obtain⟨zb,hzb⟩:∃zb:Bool,zb=true↔dW B:=by
   by_cases hz:dW B
   ·exact⟨true,by simp[hz]⟩
   ·exact⟨false,by simp[hz]⟩
  have HZB:=ad hzb;go_wp2_with fail;refine(cW w2 R2.out).mono ?_;rintro e w3 ⟨rfl,rfl⟩;go_wp2_with fail;refine(px b2 512 c2 B w2 I2'.out BL.out (by decide) zb hzb).mono ?_;rintro e w3 ⟨rfl,rfl⟩;clear hzb
  cases zb with
  |false=>
   have RE:Hid (R=⟨[],o,18⟩) :=ad (RE1.out (fun c=>by cases HZB.out.mpr c));go_wp2_with fail;go_ret2;rw[RE.out];exact⟨18,rfl,rfl,⟨_,_,R2.out⟩,U2.out⟩
  |true=>
   have RE1:=ad (RE2.out (HZB.out.mp rfl));have NX:=ad (dh w2 R2.out EE.out);obtain⟨V2,hV2⟩:=named (bM Z E O 0);obtain⟨O2,hO2⟩:=named (fu Z O 0);rw[<- hV2.out,<- hO2.out]at RE1;clear RE2 HZB;go_wp2_with fail;refine NX.out.mono ?_;rintro e w4 ⟨b4,c4,rfl,l4,i4,x4,r4,u4⟩;rw[<- hV2.out,<- hO2.out]at r4;rw[<- hV2.out];have R4:=ad r4;have U4:=ad (U2.out.trans u4);clear l4 i4 x4 r4 u4 NX;by_cases h4:V2=4
   ·subst h4;have RE:Hid (R=⟨canon (aV []),O,0⟩) :=by show _=_;rw[RE1.out,if_pos rfl]
    go_wp2_with fail;go_ret2;rw[RE.out];exact⟨0,rfl,rfl,⟨_,_,R4.out⟩,U4.out⟩
   ·have n4: (V2==4) =false:=by simpa using h4
    by_cases h11:V2=11
    ·subst h11;have RE:Hid (R=⟨[],O2,11⟩) :=by show _=_;rw[RE1.out,if_neg h4,if_pos rfl]
     go_wp2_with fail;refine(cW w4 R4.out).mono ?_;rintro e w5 ⟨rfl,rfl⟩;go_wp2_with fail;go_ret2;rw[RE.out];exact⟨11,rfl,rfl,⟨_,_,R4.out⟩,U4.out⟩
    ·have n11: (V2==11) =false:=by simpa using h11
     have RE:Hid (R=⟨[],O,18⟩) :=by show _=_;rw[RE1.out,if_neg h4,if_neg h11]
     go_wp2_with fail;go_ret2;rw[RE.out];exact⟨18,rfl,rfl,⟨_,_,R4.out⟩,U4.out⟩
 ·have n0: (V !=0) =true:=by simpa using h0
  have RE:Hid (R=⟨[],O,if V=4 then 5 else V⟩) :=by show _=_;rw[hR.out];unfold jX;rw[if_pos (by rw[<- hV.out];exact h0),<- hV.out,<- hO.out]
  clear h0;go_wp2_with fail;refine(cW w2 R2.out).mono ?_;rintro e w5 ⟨rfl,rfl⟩;go_wp2_with fail;go_ret2;rw[RE.out];exact⟨V,rfl,rfl,⟨_,_,R2.out⟩,U2.out⟩
end Go.Proofs.YtcjagakckffkiaaGreatDoor.Arc
namespace Go.Proofs.YtcjagakckffkiaaGreatDoor
open Go.RowKit Go.Proofs.YtcjagakckffkiaaGreatDoor.Fit bL Pnm dO
theorem dO.nR (n:Nat) :sy (-1) n=n:=by unfold sy;rw[if_neg (by omega)]
theorem dO.ou (n:Nat) :oV (-1) n=4:=by unfold oV;rw[if_neg (by omega)]
end Go.Proofs.YtcjagakckffkiaaGreatDoor
namespace Go.Proofs.YtcjagakckffkiaaGreatDoor.Arc
open Go.Lib Go.RowKit Go.Proofs.YtcjagakckffkiaaGreatDoor.Fit bL Pnm Tre Flt dO Reb
def QX (Z:List Int)(E:Int)(R:RR)(w:World)(lo hi q g:Nat)(x:Int)(p:Nat)(w':World) :Prop:=
 (x=18/\∃A O S,eH w' lo hi q Z E O 0/\my w' S g A/\ (∀k,S k->hi<=k)/\A.length<=1000/\R=jX Z E A O/\Below lo w w')\/
 (x≠0/\x≠18/\R=⟨[],p,if x=4 then 5 else x⟩/\Below lo w w')
set_option maxRecDepth 100000 in
theorem IW {lo hi q g B0:Nat}{Z:List Int}{E:Int}{R:RR}{w:World}(w1:World)(hEE:E=11\/E=4)(hZB:Bytes Z)(I:List Mb->Nat->Prop)(hI:Inv Z E I)(V:MV B0 w)(hB:B0<=lo)(h:RP I Z E R w lo hi q g w1) :
 Calls Tryz.prog 37 #[.pointer (some ⟨q,0,none⟩),.pointer (some ⟨g,0,none⟩)] w1 fun e w'=>∃(p:Nat) (x:Int),e= .returned (.tuple #[.int .i64 p,.int .i64 x])/\QX Z E R w lo hi q g x p w':=by
 have ZB:=ad hZB;have II:=ad hI;have EE:=ad hEE;have HV:=ad V;have HB0:=ad hB;have H:=ad h;clear hZB hI hEE V hB h;go_enter Tryz.func37,Tryz.ntmps37;go_wp2_with fail;go_loopw [6] (fun _ wr=>RP I Z E R w lo hi q g wr) (fun _ wr=>Z.length+1- Ki wr q)
 case atStart=>exact H.out
 case round=>
  obtain⟨f,A,o,S1,i1,i2,i8,i3,i4,i5,i6,i7⟩:=hrel;have OF:=ad (pY i1);have OZ:=ad i1.size.2.2.2;have MB:=ad (Kf (w:=w) wr EE.out ZB.out I II.out (HV.out.below (i7.mono HB0.out)) HB0.out f A o S1 i1 i2 i8 i3 i4 i5 i6 i7);clear i1 i2 i8 i3 i4 i5 i6 i7 H;go_wp2_with fail;refine MB.out.mono ?_;rintro e w2 ⟨p,x,rfl,hq⟩;rcases hq with⟨rfl,hr,ho⟩|⟨rfl,hq⟩|⟨h0,h18,hR,hb⟩
  ·have HR:=ad hr;have HO:=ad ho;clear hr ho MB;go_wp2_with fail;go_roundw
   case rel=>exact HR.out
   case measure=>
    rw[OF.out];have:=HO.out;have:=OZ.out;omega
  ·have HQ:=ad hq;clear hq MB;go_wp2_with fail;go_ret2;exact⟨p,18,rfl,.inl ⟨rfl,HQ.out⟩⟩
  ·have n0: (x !=0) =true:=by simpa using h0
   have HQ:Hid (x≠0/\x≠18/\R=⟨[],p,if x=4 then 5 else x⟩/\Below lo w w2) :=⟨h0,h18,hR,hb⟩;clear h0 h18 hR hb MB;go_wp2_with fail;go_ret2;exact⟨p,x,rfl,.inr HQ.out⟩
set_option maxRecDepth 100000 in
theorem sQ {lo h1 m B0:Nat}{Z:List Int}{E:Int}{cs:List Int}(w:World)(h:Src w lo h1 m Z E cs 0 0)(hl:lo<=w.heap.size)(hEE:E=11\/E=4)(hZB:Bytes Z)(I:List Mb->Nat->Prop)(hI:Inv Z E I)(V:MV B0 w)(hB:B0<=lo) :
 Calls Tryz.prog 16 #[.pointer (some ⟨m,0,none⟩)] w fun e w'=>sL (pO Z E) e w'/\Below lo w w':=by
 obtain⟨R,hR⟩:=named (pO Z E);rw[<- hR.out];have ZB:=ad hZB;have II:=ad hI;have EE:=ad hEE;have LH:=ad hl;have HV:=ad V;have HB0:=ad hB;have RN:=ad (zR w h);clear h hZB hI hl hEE V hB;go_enter Tryz.func16,Tryz.ntmps16;go_wp2_with fail;refine RN.out.mono ?_;rintro e w1 ⟨q,rfl,r1,b1⟩;have R1:=ad r1;have B1:=ad b1;obtain⟨hi,hhi⟩:=named w1.heap.size;rw[<- hhi.out]at R1;clear r1 b1 RN;go_wp2_with fail;refine(Reb.kX w1).mono ?_;rintro e w2 ⟨S0,g,rfl,p2,s2,b2⟩;have R2:Hid (RP I Z E R w lo hi q g w2) :=⟨Z.length,[],0,S0,R1.out.below b2,p2,(fun k hk=>by rw[hhi.out];exact s2 k hk),uA,II.out.z,hR.out.symm,by omega,(B1.out.mono LH.out).trans (b2.mono (Nat.le_trans LH.out B1.out.size))⟩;clear p2 s2 b2 R1 B1 hR hhi;go_wp2_with fail;refine(IW w2 EE.out ZB.out I II.out HV.out HB0.out R2.out).mono ?_;rintro e w3 ⟨p,x,rfl,hq⟩;clear R2;rcases hq with⟨rfl,A,O,S,r3,p3,s3,a3,hR,b3⟩|⟨h0,h18,hR,b3⟩
 ·have R3:=ad r3;have P3:=ad p3;have S3:=ad s3;have A3:=ad a3;have B3:=ad b3;obtain⟨T1,T2,T3⟩:=Ku (Z:=Z) (E:=E) A O;have RS:=ad (CY w3 r3 EE.out);obtain⟨T,hT⟩:=named (jX Z E [] O);rw[<- hT.out]at RS T1 T2 T3
  have RE:Hid (R=⟨if T.e=0 then canon (aV A)else [],T.p,T.e⟩) :=by
   show _=_;rw[hR];revert T1 T2 T3;generalize jX Z E A O=u;intro T1 T2 T3;obtain⟨u1,u2,u3⟩:=u;dsimp only at T1 T2 T3;rw[T1,T2,T3]
  clear T1 T2 T3 hT r3 p3 s3 a3 hR b3;obtain⟨_,tp,te⟩:=T;go_wp2_with fail;refine RS.out.mono ?_;rintro e w4 ⟨y,rfl,hy,⟨o4,s4,r4⟩,u4⟩;have P4:=ad (P3.out.only (kO u4) fun k hk c=>by have:=S3.out k hk;omega);have L4:=ad (B3.out.trans (u4.below ah (by have:=R3.out.size;omega)));have Q4:=ad (r4.size.1);have HY:=ad hy;have LQ:Hid (lo<=w4.heap.size) :=by show _<=_;have:=r4.size;omega
  clear r4 u4 RS hy;by_cases hy0:y=0
  ·subst hy0;have RE':Hid (R=⟨canon (aV A),tp,0⟩) :=by show _=_;rw[RE.out];have:te=0:=HY.out;subst this;rfl
   have NO:=ad (Bs P4.out A3.out);go_wp2_with fail;refine NO.out.mono ?_;rintro e w7 ⟨a7,c7,z7,rfl,ha,hz,_,_,b7⟩;have HA:=ad ha;have HZ7:=ad hz;have L7:=ad (L4.out.trans (b7.mono LQ.out));clear ha hz b7;go_wp2_with fail;go_ret3;exact⟨by rw[RE'.out];exact⟨a7,_,c7,z7,rfl,HA.out,HZ7.out⟩,L7.out⟩
  ·have n0: (y==0) =false:=by simpa using hy0
   by_cases hy4:y=4
   ·subst hy4;have RE':Hid (R=⟨[],tp,5⟩) :=by show _=_;rw[RE.out];have:te=5:=HY.out;subst this;rfl
    go_wp2_with fail;go_ret3;exact⟨by rw[RE'.out];exact sL.bad _ _,L4.out⟩
   ·have n4: (y==4) =false:=by simpa using hy4
    have RE':Hid (R=⟨[],tp,y⟩) :=by show _=_;rw[RE.out];have e:te=y:=HY.out.trans (if_neg hy4);subst e;rw[if_neg hy0]
    clear hy0 hy4;go_wp2_with fail;go_ret3;exact⟨by rw[RE'.out];exact sL.bad _ _,L4.out⟩
 ·have n18: (x==18) =false:=by simpa using h18
  have n0: (x==0) =false:=by simpa using h0
  have B3:=ad b3;by_cases h4:x=4
  ·subst h4;have RE:Hid (R=⟨[],p,5⟩) :=hR;clear h18 h0 b3 hR;go_wp2_with fail;go_ret3;exact⟨by rw[RE.out];exact sL.bad _ _,B3.out⟩
  ·have n4: (x==4) =false:=by simpa using h4
   have RE:Hid (R=⟨[],p,x⟩) :=by show _=_;rw[hR,if_neg h4]
   clear h18 h0 h4 b3 hR;go_wp2_with fail;go_ret3;exact⟨by rw[RE.out];exact sL.bad _ _,B3.out⟩
set_option maxRecDepth 100000 in
theorem Fi {B0:Nat}(a:Option Addr)(n cap:Nat)(zs:List Int)(w:World)(hb:BytesIn w a zs)(hl:zs.length=n)(hc:n<=cap)(hn:n<=100000000)(I:List Mb->Nat->Prop)(hI:Inv zs 4 I)(V:MV B0 w) :
 Calls Tryz.prog 21 #[.slice a n cap] w fun e w'=>sL (pO zs 4) e w'/\Below w.heap.size w w':=by
 have HB:=ad hb;have HL:=ad hl;have HV:=ad V;have SN:=ad (kX a n cap zs none 0 0 [] (-1) w hb hl hc (by omega) (.inl rfl) rfl (by decide));clear hb hl V hc;go_enter Tryz.func21,Tryz.ntmps21;go_wp2_with fail;refine SN.out.mono ?_;rintro e w1 ⟨m,rfl,r1,b1⟩;have R1:=ad r1;have B1:=ad b1;have V1:=ad (HV.out.go b1);rw[nR,ou,List.take_of_length_le (by rw[HL.out];exact ah)]at R1;clear r1 b1 SN;go_wp2_with fail;refine(sQ w1 R1.out B1.out.size (.inr rfl) HB.out.bytes I hI V1.out HV.out.s).mono ?_;rintro e w2 ⟨⟨a2,n2,c2,ys,rfl,ha,hz⟩,b2⟩;have HA:=ad ha;have HZ:=ad hz;have B2:=ad (B1.out.trans b2);clear ha hz b2;go_wp2_with fail;go_ret3;exact⟨⟨a2,n2,c2,ys,rfl,HA.out,HZ.out⟩,B2.out⟩
end Go.Proofs.YtcjagakckffkiaaGreatDoor.Arc
namespace Go.Proofs.YtcjagakckffkiaaGreatDoor.Arc
open Go.Lib Go.RowKit Go.Proofs.YtcjagakckffkiaaGreatDoor.Fit bL Pnm Tre Flt dO Reb
theorem gC {B0:Nat} :xo B0:=fun a n cap ys w ha hn hL V=>Gk a n cap ys w ha hn hL V
theorem gG {B0:Nat} :xI B0:=fun a n cap zs w I hb hl hc hn hI V=>Fi a n cap zs w hb hl hc hn I hI V
theorem qG {B0:Nat} :Qz B0:=fun w _ _ _ _ _ _ I h hl hE hZ hI V hB=>sQ w h hl hE hZ I hI V hB
end Go.Proofs.YtcjagakckffkiaaGreatDoor.Arc
namespace Go.Proofs.YtcjagakckffkiaaGreatDoor
open Go.Lib Go.RowKit Go.Proofs.YtcjagakckffkiaaGreatDoor.Fit bL Pnm Tre Flt dO Reb Arc
theorem fA (a:Option Addr)(len cap:Nat)(zs:List Int)(cut:Int)(w:World)(V:fb w)(hz:aB .u8 w a len cap zs)(hcut: (Lit.int .u16 cut).wf=true) :
 Calls Tryz.prog 11 #[.slice a len cap,.int .u16 cut] w fun e w'=>e= .returned (.bool true)/\Below w.heap.size w w':=
 Qv gC gG qG a len cap zs cut w (MV.of V) hz hcut
end Go.Proofs.YtcjagakckffkiaaGreatDoor
namespace Go.Proofs.YtcjagakckffkiaaGreatDoor.Flt
open Go.RowKit Go.Proofs.YtcjagakckffkiaaGreatDoor.Fit Go.Proofs.YtcjagakckffkiaaGreatDoor.dO Pnm Tre
def tK (L:List Mb)(w:World)(e:Ending)(w':World) :Prop:=∃X E:Int,e= .returned (.tuple #[.int .i64 X,.int .i64 E])/\X=Pj L/\E=pX L/\Below w.heap.size w w'
theorem tK.bad {L:List Mb}{w w':World}{E:Int}(h:E=pX L)(h0:E≠0)(hb:Below w.heap.size w w') :tK L w (.returned (.tuple #[.int .i64 0,.int .i64 E])) w':=
 ⟨0,E,rfl,by unfold Pj;rw[if_neg (by rw[<- h];exact h0)],h,hb⟩
theorem tK.ng {L:List Mb}{w w':World}{n:Nat}{X:Int}(hn:L.length=n)(h:∀i,i<n->dn (mz L i).e=0)(hX:X=1024+ (pA L n:Nat))(hb:Below w.heap.size w w') :tK L w (.returned (.tuple #[.int .i64 X,.int .i64 0])) w':=
 ⟨X,0,rfl,by unfold Pj;rw[if_pos (Ap hn h),hn,hX],(Ap hn h).symm,hb⟩
set_option maxRecDepth 100000 in
theorem nX (a:Option Addr)(n cap:Nat)(ys:List ft)(w:World)(V:dF w)(ha:jy w a n cap ys)(h40:n<=100) :Calls Tryz.prog 30 #[.slice a n cap] w (tK (qz ys) w) :=by
 have HA:=ad ha;have HV:=ad V;have MZ:=ad Pk;have MO:=ad Oy;have HN:Hid ((qz ys).length=n) :=by show _=_;rw[lh];exact ha.n
 have H40:=ad h40;have n40: (n:Int)<=100:=by omega
 have nc: (n:Int)<=cap:=by have:=ha.c;omega
 clear ha V h40;go_enter Tryz.func30,Tryz.ntmps30;go_wp2_with fail;go_loopw [4,11] (fun s i wr=>∃j:Nat,s= .int .i64 (1024+ (pA (qz ys) j:Nat))/\i= .int .i64 j/\j<=n/\ (∀i,i<j->dn (mz (qz ys) i).e=0)/\Below w.heap.size w wr) (fun _ i _=>n- (intOf i).toNat)
 case atStart=>exact⟨0,rfl,rfl,Nat.zero_le _,fun i h=>absurd h (Nat.not_lt_zero i),aF⟩
 case round=>
  obtain⟨j,rfl,rfl,hj,hp,hB⟩:=hrel;have HP:=ad hp;have HB:=ad hB;by_cases hjn:j<n
  ·obtain⟨b,off,y,rfl,hb,hy,hf,hat⟩:=HA.out.get j hjn;obtain⟨c0,c1,c2,c3,c4,c5⟩:= (hat.below hB hb).c hy;have EJ:Hid ((qz ys)[j]? =some y.n) :=rH hy;have JN:=ad hjn;have P1:=ad (Nat.le_trans hf.p (show 140737488355328<=maxLen by decide));have P2:=ad (Nat.le_trans hf.t (show 140737488355328<=maxLen by decide));have SL:=Ep (L:=qz ys) (j:=j) (by rw[HN.out];exact hj) hp;clear hp hB hb hat hy hf hjn;obtain⟨⟨⟨k,p,m,t,s⟩,d⟩,x,xc⟩:=y;obtain⟨L,hL⟩:=named d.length;have c5':wr.cell? ⟨b,off+j*6+5,none⟩=some (.slice x L xc) :=by rw[hL.out];exact c5
   clear c5 hL;obtain⟨Z,hZ⟩:=named (pA (qz ys) j);rw[<- hZ.out]at SL⊢;have ZB: (Z:Int)<=109951200000000:=by have:=SL.1;have:=H40.out;have:=JN.out;omega
   have Z0: (0:Int)<=Z:=Int.natCast_nonneg _;clear SL hj;have j1: (j:Int) <n:=by have:=JN.out;omega
   obtain⟨E,hE⟩:=named (dn ⟨k,p,m,t,s⟩);obtain⟨zs,hzs⟩:=named (eW ⟨k,p,m,t,s⟩);have EN:Hid (∀q,Below w.heap.size w q->Calls Tryz.prog 57 #[.agg (aR k p m t s).toArray] q (kg zs E q)) :=fun q hq=>by rw[hE.out,hzs.out];exact wQ ⟨k,p,m,t,s⟩ q (HV.out.go hq) P1.out P2.out
   go_wp2_with (first| (refine ag rfl 70 rfl (fD 0 emp 0 emp 0 none 0 0) MZ.out ?_;intro w5 g5 b5;have G5:=ad g5;have B5:=ad b5;clear g5 b5 c0 c1 c2 c3 c4 c5') | (refine ae rfl 70 _ _ rfl wr.heap.size rfl (fD k p m t s x L xc) (fD 0 emp 0 emp 0 none 0 0) rfl 70 G5.out MO.out.2 rfl (kD _ _ _ _ _ _ _ _) ?_;intro w6 g6 t6;have G6:=ad g6;have B6:=ad (HB.out.trans ((B5.out.trans (t6.below ah)).mono HB.out.size));have d0:=g6.get 0 rfl;have d1:=g6.get 1 rfl;have d2:=g6.get 2 rfl;have d3:=g6.get 3 rfl;have d4:=g6.get 4 rfl;clear g6 t6));refine(EN.out w6 B6.out).mono ?_;rintro e w7 ⟨hb_,hn_,hc_,rfl,hl,hlc,hlm,_,_,b7⟩;have B7:=ad (ar B6.out b7);have G7:=ad (G6.out.below b7 G6.out.lt);have d4:=G7.out.get 4 rfl;clear d0 d1 d2 d3 b7;by_cases h0:¬E=0
   ·have nE: (E !=0) =true:=by simpa using h0
    have RES:Hid (E=pX (qz ys)) :=by show _=_;rw[Nk EJ.out HP.out (by rw[<- hE.out];exact h0),hE.out]
    have H0:=ad h0;clear h0 hE hZ;go_wp2_with fail;go_ret2;exact .bad RES.out H0.out B7.out
   obtain rfl:E=0:=Decidable.not_not.mp h0;obtain⟨o1,o2,o3,o4⟩:=FI (x:=⟨⟨k,p,m,t,s⟩,d⟩) hE.out.symm;have SO:Hid (JM ⟨⟨k,p,m,t,s⟩,d⟩=hn_+512*aZ s.toNat) :=by show _=_;unfold JM;rw[<- hzs.out,hl]
   rw[SO.out]at o1;have ST:=ad (xw EJ.out);obtain⟨BK,hBK⟩:=named (aZ s.toNat);have BL:Hid (∀q,Calls Tryz.prog 58 #[.int .i64 s] q fun e w'=>e= .returned (.int .i64 (BK:Nat))/\q=w') :=fun q=>by rw[hBK.out];exact fC s (by have o4:s<=1099511627776:=o4;omega) q
   rw[<- hBK.out]at o1 SO;have hn1: (hn_:Int) +512*BK<=1099512000000:=by omega
   have CK:Hid (dn (mz (qz ys) j).e=0) :=by show _=_;rw[tX EJ.out];exact hE.out.symm
   have hnc: (hn_:Int)<=hc_:=by omega
   clear h0 o1 o2 o3 o4 hBK hl hlc hlm;go_wp2_with fail;refine(BL.out w7).mono ?_;rintro e w8 ⟨rfl,rfl⟩;go_wp2_with fail
   go_round
   case rel=>exact⟨j+1,by rw[ST.out,<- hZ.out,SO.out];go_num,by go_num,by have:=JN.out;omega,fun i hi=>by
    by_cases h:i<j
    ·exact HP.out i h
    ·obtain rfl:i=j:=by omega
     exact CK.out,B7.out⟩
   case measure=>simp[intOf];have:=JN.out;omega
  ·obtain rfl:j=n:=by omega
   have RES:Hid (tK (qz ys) w (.returned (.tuple #[.int .i64 (1024+ (pA (qz ys) j:Nat)),.int .i64 0])) wr) := .ng HN.out hp rfl hB;clear hp hB hjn hj;go_wp2_with fail;go_ret2;exact RES.out
end Go.Proofs.YtcjagakckffkiaaGreatDoor.Flt
namespace Go.Proofs.YtcjagakckffkiaaGreatDoor.Tre
open Go.RowKit Go.Proofs.YtcjagakckffkiaaGreatDoor.Fit Pnm
set_option maxRecDepth 100000 in
theorem iU (a:Option Addr)(n cap:Nat)(ys:List aL)(w:World)(ha:br w a n cap ys) :
 Calls Tryz.prog 12 #[.slice a n cap] w fun e w'=>∃R:Int,e= .returned (.int .i64 R)/\ (R=1\/ (R=0/\n<=40/\∀y∈ys,y.n.p.size<=70000/\y.n.t.size<=70000/\y.n.d.length<=70000))/\Below w.heap.size w w':=by
 have HA:=ad ha;have NZ:=ad Bm;have NO:=ad Cm;have HN:Hid (ys.length=n) :=ha.n;have hn:n<=maxLen:=Nat.le_trans ha.c ha.m;unfold maxLen at hn;clear ha;by_cases h40: (40:Int) <n
 ·go_enter Tryz.func12,Tryz.ntmps12;go_wp2_with fail;go_ret;exact⟨1,rfl,.inl rfl,aF⟩
 ·have N40:Hid (n<=40) :=by show _<=_;omega
  go_enter Tryz.func12,Tryz.ntmps12;go_wp2_with fail;go_loopw [3,11] (fun s i wr=>∃j S:Nat,s= .int .i64 S/\i= .int .i64 j/\j<=n/\S<=70000*j/\ (∀k,k<j-> (nd (aI ys) k).p.size<=70000/\ (nd (aI ys) k).t.size<=70000/\ (nd (aI ys) k).d.length<=70000)/\Below w.heap.size w wr) (fun _ i _=>n- (intOf i).toNat)
  case atStart=>exact⟨0,0,rfl,rfl,Nat.zero_le _,Nat.zero_le _,fun k hk=>absurd hk (Nat.not_lt_zero k),aF⟩
  case round=>
   obtain⟨j,S,rfl,rfl,hj,hs,hp,hB⟩:=hrel;have HP:=ad hp;have HB:=ad hB;have S1: (S:Int)<=2800000:=by have:=N40.out;omega
   have HS:=ad hs;clear hp hB hs;by_cases hjn:j<n
   ·obtain⟨b,off,y,rfl,hb,hy,hf,hat⟩:=HA.out.get j hjn;obtain⟨c0,c1,c2,c3,c4,c5⟩:= (hat.below HB.out hb).c hy;have EY:Hid (nd (aI ys) j=y.n) :=oI hy;have hp:=hf.p;have ht:=hf.t;have hd:=hf.l;clear hat hf hy hb;obtain⟨⟨k,p,m,t,d,c⟩,x,xc⟩:=y;dsimp only at hp ht hd;obtain⟨L,hL⟩:=named d.length;have c4':wr.cell? ⟨b,off+j*6+4,none⟩=some (.slice x L xc) :=by rw[hL.out];exact c4
    rw[<- hL.out]at hd;clear c4;have j1: (j:Int) <n:=by omega
    have hpi: (p.size:Int)<=140737488355328:=by omega
    have hti: (t.size:Int)<=140737488355328:=by omega
    have hdi: (L:Int)<=140737488355328:=by omega
    by_cases h7: (70000:Int) < (p.size:Int) +t.size+L
    ·clear HP EY hL hp ht hd;go_wp2_with (first| (refine ag rfl 77 rfl (bq 0 emp 0 emp none 0 0 0) NZ.out ?_;intro w2 g2 b2;have G2:=ad g2;have B2:=ad (ar HB.out b2);clear g2 b2 c0 c1 c2 c3 c4' c5) | (refine ae rfl 77 _ _ rfl wr.heap.size rfl (bq k p m t x L xc c) (bq 0 emp 0 emp none 0 0 0) rfl 77 G2.out NO.out.2 rfl (bE _ _ _ _ _ _ _ _) ?_;intro w3 g3 t3;have B3:=ad (B2.out.trans (t3.below HB.out.size));have c1:=g3.get 1 rfl;have c3:=g3.get 3 rfl;have c4:=g3.get 4 rfl;clear g3 t3));go_ret;exact⟨1,rfl,.inl rfl,B3.out⟩
    ·have H7:Hid (p.size+t.size+L<=70000) :=by show _<=_;omega
     have h7': (p.size:Int) +t.size+L<=70000:=by omega
     clear hp ht hd;go_wp2_with (first| (refine ag rfl 77 rfl (bq 0 emp 0 emp none 0 0 0) NZ.out ?_;intro w2 g2 b2;have G2:=ad g2;have B2:=ad (ar HB.out b2);clear g2 b2 c0 c1 c2 c3 c4' c5) | (refine ae rfl 77 _ _ rfl wr.heap.size rfl (bq k p m t x L xc c) (bq 0 emp 0 emp none 0 0 0) rfl 77 G2.out NO.out.2 rfl (bE _ _ _ _ _ _ _ _) ?_;intro w3 g3 t3;have B3:=ad (B2.out.trans (t3.below HB.out.size));have c1:=g3.get 1 rfl;have c3:=g3.get 3 rfl;have c4:=g3.get 4 rfl;clear g3 t3))
     go_round
     case rel=>exact⟨j+1,S+ (p.size+t.size+L),by go_num,by go_num,by omega,by have:=H7.out;have:=HS.out;omega,fun k'' hk=>by
      by_cases h:k''<j
      ·exact HP.out k'' h
      ·obtain rfl:k''=j:=by omega
       rw[EY.out];have:=H7.out;have:=hL.out;dsimp only;omega,B3.out⟩
     case measure=>simp[intOf];omega
   ·obtain rfl:j=n:=by omega
    by_cases h1: (100000:Int) <S
    ·go_wp2_with fail;go_ret;exact⟨1,rfl,.inl rfl,HB.out⟩
    ·go_wp2_with fail;go_ret
     exact⟨0,rfl,.inr ⟨rfl,N40.out,fun y hy=>by
      obtain⟨i,hi,rfl⟩:=List.getElem_of_mem hy;have:=HP.out i (by rw[<- HN.out];exact hi)
      rwa [oI (List.getElem?_eq_getElem hi)]at this⟩,HB.out⟩
end Go.Proofs.YtcjagakckffkiaaGreatDoor.Tre
namespace Go.Proofs.YtcjagakckffkiaaGreatDoor.Arc
open Go.Lib Go.RowKit Go.Proofs.YtcjagakckffkiaaGreatDoor.Fit bL Pnm Tre Flt dO Reb
set_option maxRecDepth 100000 in
theorem QM {B0:Nat}(HE:xo B0)(HD:xI B0)(a:Option Addr)(n cap:Nat)(ys:List aL)(w:World)(V:MV B0 w)(ha:br w a n cap ys) :
 Calls Tryz.prog 8 #[.slice a n cap] w fun e w'=>e= .returned (.bool true)/\Below w.heap.size w w':=by
 have HA:=ad ha;have HV:=ad V;have HEE:=ad HE;have HDD:=ad HD;have LG:=ad (iU a n cap ys w ha);have HN:Hid (ys.length=n) :=ha.n;clear ha V HE HD;go_enter Tryz.func8,Tryz.ntmps8;go_wp2_with fail;refine LG.out.mono ?_;rintro e w1 ⟨R,rfl,hR,b1⟩;have B1:=ad b1;have V1:=ad (HV.out.go b1);have A1:=ad (HA.out.below b1);clear b1 LG;rcases hR with rfl|⟨rfl,hn,hy⟩
 ·go_wp2_with fail;refine(aX w1 HEE.out HDD.out V1.out).mono ?_;rintro e w2 ⟨rfl,b2⟩;have B2:=ad (B1.out.trans (b2.mono B1.out.size));clear b2;go_wp2_with fail;go_ret;exact⟨rfl,B2.out⟩
 obtain⟨BD,N40,ML⟩:=qe HN.out hn hy;have BD:=ad BD;have N40:=ad N40;have ML:=ad ML;clear hn hy;have ZE:=ad (Aa (aI ys));have ZA:=ad (vF (aI ys));obtain⟨Z,hZ⟩:=named (nM (aI ys));obtain⟨X,hX⟩:=named (dA (aI ys)).2;have EC:=ad (HEE.out a n cap ys w1 A1.out (Nat.le_trans N40.out (by decide)) BD.out V1.out);rw[<- hZ.out,<- hX.out]at EC;rw[<- hZ.out,<- hX.out]at ZE ZA;go_wp2_with fail;refine EC.out.mono ?_;rintro e w2 ⟨b2,n2,c2,rfl,l2,lc2,_,i2,_,bb2⟩;have L2:=ad l2;have LC2:=ad lc2;have B2:=ad (B1.out.trans (bb2.mono B1.out.size));have V2:=ad (V1.out.go bb2);have A2:=ad (A1.out.below bb2);clear i2 l2 lc2 bb2 EC;go_wp2_with fail;refine(sr a n cap ys w2 V2.out.v.f A2.out (Nat.le_trans N40.out (by decide))).mono ?_;rintro e w3 ⟨b,k,c,us,X1,X2,rfl,_,h2,hm,hu,b3,_,_⟩;obtain rfl:X2=X:=h2.trans hX.out.symm;have HM:=ad hm;have HU:=ad hu;have B3:=ad (B2.out.trans (b3.mono B2.out.size));have V3:=ad (V2.out.go b3);clear h2 hm hu b3;by_cases hx:¬X2=0
 ·have nx: (X2 !=0) =true:=by simpa using hx
  obtain rfl:n2=0:=by have:=L2.out;rw[ZE.out hx]at this;exact this.symm
  clear hx;go_wp2_with fail;refine(aX w3 HEE.out HDD.out V3.out).mono ?_;rintro e w4 ⟨rfl,b4⟩;have B4:=ad (B3.out.trans (b4.mono B3.out.size));clear b4;go_wp2_with fail;go_ret;exact⟨rfl,B4.out⟩
 obtain rfl:X2=0:=Decidable.not_not.mp hx;clear hx;obtain⟨zz,GA⟩:=ZA.out rfl;have ok:=Gd.Pf GA;have SX:Hid (Pj (qz us) = (n2:Int)) :=by show _=_;rw[HU.out,<- Kx ok,<- zz,L2.out]
 have SE:Hid (pX (qz us) =0) :=by show _=_;rw[HU.out];exact so.mpr fun x hx=> (ok x hx).1
 have hrem:Int.tmod (n2:Int) 512=0:=by rw[Gc,<- L2.out,zz,Kn ok];rfl
 have KK:k<=100:=by have h1:=HM.out.n;have h2:=congrArg List.length HU.out;rw[lh]at h2;have:=ML.out;omega
 have SZ:=ad (nX b k c us w3 V3.out.v.f HM.out KK);clear zz GA ok KK;go_wp2_with fail;refine SZ.out.mono ?_;rintro e w4 ⟨X3,E3,rfl,h3,h4,b4⟩;obtain rfl:X3= (n2:Int) :=h3.trans SX.out;obtain rfl:E3=0:=h4.trans SE.out;have B4:=ad (B3.out.trans (b4.mono B3.out.size));have V4:=ad (V3.out.go b4);clear h3 h4 b4 SZ SX SE;go_wp2_with fail;refine(aX w4 HEE.out HDD.out V4.out).mono ?_;rintro e w5 ⟨rfl,b5⟩;have B5:=ad (B4.out.trans (b5.mono B4.out.size));clear b5;go_wp2_with fail;go_ret;exact⟨rfl,B5.out⟩
end Go.Proofs.YtcjagakckffkiaaGreatDoor.Arc
namespace Go.Proofs.YtcjagakckffkiaaGreatDoor
open Go.Lib Go.RowKit Go.Proofs.YtcjagakckffkiaaGreatDoor.Fit bL Pnm Tre Flt dO Reb Arc
theorem lL (a:Option Addr)(n cap:Nat)(ys:List aL)(w:World)(V:fb w)(ha:br w a n cap ys) :
 Calls Tryz.prog 8 #[.slice a n cap] w fun e w'=>e= .returned (.bool true)/\Below w.heap.size w w':=
 QM gC gG a n cap ys w (MV.of V) ha
end Go.Proofs.YtcjagakckffkiaaGreatDoor
namespace Go.Proofs.YtcjagakckffkiaaGreatDoor.Flt
open Go.RowKit Go.Proofs.YtcjagakckffkiaaGreatDoor.Fit
def gK:Array Field:= #[{name:= "Kind",type:=3,offset:=0,embedded:=false,tag:= "",pkgPath:= "",byteOffset:=0},{name:= "Path",type:=9,offset:=1,embedded:=false,tag:= "",pkgPath:= "",byteOffset:=8},
 {name:= "Mode",type:=3,offset:=2,embedded:=false,tag:= "",pkgPath:= "",byteOffset:=24},{name:= "Target",type:=9,offset:=3,embedded:=false,tag:= "",pkgPath:= "",byteOffset:=32},
 {name:= "Size",type:=2,offset:=4,embedded:=false,tag:= "",pkgPath:= "",byteOffset:=48}]
theorem zD (k:Int)(p:ByteArray)(m:Int)(t:ByteArray)(s:Int)(k':Int)(p':ByteArray)(m':Int)(t':ByteArray)(s':Int)(w:World) :
 (Op.equalIn 10000 68 (.agg (aR k p m t s).toArray) (.agg (aR k' p' m' t' s').toArray)).run Tryz.prog w= .ok (decide (k=k'/\p=p'/\m=m'/\t=t'/\s=s')) w:=by
 have ht:=Tryz.underlying68;have hf:Tryz.prog.fieldsOf 68=gK:=by unfold Program.fieldsOf;rw[ht];rfl
 rw[run_equalIn_struct w 9999 68 _ _ (by rw[hf];exact ht) (by kernel_rfl),hf];have u9:=Tryz.underlying9;have u3:=Tryz.underlying3;have u2:=Tryz.underlying2;by_cases h1:k=k'
 ·subst h1;by_cases h2:p=p'
  ·subst h2;by_cases h3:m=m'
   ·subst h3;by_cases h4:t=t'
    ·subst h4;by_cases h5:s=s'
     ·subst h5;simp[gK,Op.eqFields,part,isAgg,u9,u3,u2,go_sem]
     ·simp[gK,Op.eqFields,part,isAgg,u9,u3,u2,h5,go_sem]
    ·have:=ch h4;simp[gK,Op.eqFields,part,isAgg,u9,u3,u2,h4,this,go_sem]
   ·simp[gK,Op.eqFields,part,isAgg,u9,u3,u2,h3,go_sem]
  ·have:=ch h2;simp[gK,Op.eqFields,part,isAgg,u9,u3,u2,h2,this,go_sem]
 ·simp[gK,Op.eqFields,part,isAgg,u9,u3,u2,h1,go_sem]
end Go.Proofs.YtcjagakckffkiaaGreatDoor.Flt
namespace Go.Proofs.YtcjagakckffkiaaGreatDoor.Arc
open Go.Lib Go.RowKit Go.Proofs.YtcjagakckffkiaaGreatDoor.Fit bL Pnm Tre Flt dO Reb
theorem AX {A:List Mb}(hA:Gd A){i:Nat}{x:Mb}(hx:A[i]? =some x){Z:List Int}(hZ:Z=cy A) :
 du Z 4 (cq (A.take i)).length 0=⟨x.e,(cq (A.take i)).length,0,(cq (A.take i)).length+ (eW x.e).length,0⟩/\
 eO Z 4 ((cq (A.take i)).length+ (eW x.e).length) 0 x.e.s=0/\gw Z ((cq (A.take i)).length+ (eW x.e).length) 0 x.e.s=x.d/\
 jQ Z ((cq (A.take i)).length+ (eW x.e).length) 0 x.e.s= (cq (A.take (i+1))).length/\nP Z 4 ((cq (A.take i)).length+ (eW x.e).length) 0 x.e.s=0:=by
 obtain⟨-,h2,h3⟩:=Gd.PO hA hx;obtain⟨-,s0,s1⟩:=ix h2;have hdr:Z.drop (cq (A.take i)).length=kR x++ (cq (A.drop (i+1)) ++ao 1024) :=by rw[hZ];unfold cy;exact rT hx _
 have ho: (cq (A.take i)).length<=Z.length:=by
  rw[hZ];unfold cy;rw[List.length_append,yj hx,List.length_append];omega
 have hZ1:Z.drop (cq (A.take i)).length=eW x.e++ (x.d++ao (bU x.d.length) ++ (cq (A.drop (i+1)) ++ao 1024)) :=by rw[hdr];unfold kR;rw[List.append_assoc]
 have hd:=uV (E:=4) h2 hZ1 ho;have hZ2:=kV hZ1 rfl
 have hl: (cq (A.take i)).length+ (eW x.e).length<=Z.length:=by
  have:=congrArg List.length hZ1;rw[List.length_drop,List.length_append]at this;omega
 obtain⟨r1,-,r3,r4,r5⟩:=pZ (E:=4) hZ2 rfl (by omega) hl;rw[h3]at r1 r3 r4 r5;refine⟨hd,r1,r3,?_,r5⟩;rw[r4,jl hx,gO];omega
theorem step_end {A:List Mb}{Z:List Int}(hZ:Z=cy A) :du Z 4 (cq A).length 0=⟨ez,(cq A).length,18,(cq A).length+512,0⟩/\Z.length= (cq A).length+1024:=by
 have hdr:Z.drop (cq A).length=ao 512++ao 512:=by rw[hZ];unfold cy;rw[List.drop_left,show ao 1024=ao 512++ao 512 from dK 512 512]
 have hl:Z.length= (cq A).length+1024:=by rw[hZ];unfold cy;rw[List.length_append,al]
 exact⟨nv hdr (by omega),hl⟩
set_option maxRecDepth 100000 in
theorem QK {B0:Nat}(HE:xo B0)(HD:xI B0)(a:Option Addr)(n cap0:Nat)(ys:List aL)(w:World)(V:MV B0 w)(ha:br w a n cap0 ys) :
 Calls Tryz.prog 10 #[.slice a n cap0] w fun e w'=>e= .returned (.bool true)/\Below w.heap.size w w':=by
 have HA:=ad ha;have HV:=ad V;have HEE:=ad HE;have HDD:=ad HD;have EO:=ad Bt;have EZ:=ad Km;have MO:=ad Oy;have MZ:=ad Pk;have LG:=ad (iU a n cap0 ys w ha);have HN:Hid (ys.length=n) :=ha.n;clear ha V HE HD;go_enter Tryz.func10,Tryz.ntmps10;go_wp2_with fail;refine LG.out.mono ?_;rintro e w1 ⟨R,rfl,hR,b1⟩;have B1:=ad b1;have V1:=ad (HV.out.go b1);have A1:=ad (HA.out.below b1);clear b1 LG;rcases hR with rfl|⟨rfl,hn,hy⟩
 ·go_wp2_with fail;refine(aX w1 HEE.out HDD.out V1.out).mono ?_;rintro e w2 ⟨rfl,b2⟩;have B2:=ad (B1.out.trans (b2.mono B1.out.size));clear b2;go_wp2_with fail;go_ret;exact⟨rfl,B2.out⟩
 obtain⟨BD,N40,ML⟩:=qe HN.out hn hy;have BD:=ad BD;have N40:=ad N40;have ML:=ad ML;clear hn hy;have ZA:=ad (vF (aI ys));obtain⟨Z,hZ⟩:=named (nM (aI ys));obtain⟨X,hX⟩:=named (dA (aI ys)).2;have EC:=ad (HEE.out a n cap0 ys w1 A1.out (Nat.le_trans N40.out (by decide)) BD.out V1.out);rw[<- hZ.out,<- hX.out]at EC;rw[<- hZ.out,<- hX.out]at ZA;obtain⟨A,hA⟩:=named (iF (aI ys));rw[<- hA.out]at ZA ML BD;go_wp2_with fail;refine EC.out.mono ?_;rintro e w2 ⟨b2,n2,c2,rfl,l2,lc2,_,i2,_,bb2⟩;have L2:=ad l2;have LC2:=ad lc2;have I2:=ad i2;have B2:=ad (B1.out.trans (bb2.mono B1.out.size));have V2:=ad (V1.out.go bb2);have A2:=ad (A1.out.below bb2);clear i2 l2 lc2 bb2 EC;go_wp2_with fail;refine(sr a n cap0 ys w2 V2.out.v.f A2.out (Nat.le_trans N40.out (by decide))).mono ?_;rintro e w3 ⟨b,k,c,us,X1,X2,rfl,_,h2,hm,hu,b3,_,_⟩;obtain rfl:X2=X:=h2.trans hX.out.symm;have HU:=ad hm;have B3:=ad (B2.out.trans (b3.mono B2.out.size));have V3:=ad (V2.out.go b3);have I3:=ad (I2.out.below b3);have UA:Hid (qz us=A) :=by show _=_;rw[hu,hA.out]
 clear h2 hm hu b3 hX hZ hA;by_cases hx:¬X2=0
 ·have nx: (X2 !=0) =true:=by simpa using hx
  clear hx;go_wp2_with fail;refine(aX w3 HEE.out HDD.out V3.out).mono ?_;rintro e w4 ⟨rfl,b4⟩;have B4:=ad (B3.out.trans (b4.mono B3.out.size));clear b4;go_wp2_with fail;go_ret;exact⟨rfl,B4.out⟩
 obtain rfl:X2=0:=Decidable.not_not.mp hx;clear hx;obtain⟨zz,GA⟩:=ZA.out rfl;have GD:=ad GA;have ZZ:=ad zz;obtain⟨e1,e2⟩:=step_end zz;have END:=ad e1;obtain⟨oA,hoA⟩:=named (cq A).length;rw[<- hoA.out]at END;have NB:Hid (n2=oA+1024/\oA<=70000000) :=by show _/\_;have:=L2.out;have:=BD.out;rw[hoA.out];omega
 have hwr:IntKind.i64.wrap ((n2:Int) - 1024) = (oA:Int) :=by
  have h:=NB.out.1;have e: (n2:Int) - 1024= (oA:Int) :=by omega
  rw[e];exact rQ (by omega) (by have:=NB.out.2;omega)
 have AL:Hid (A.length=k) :=by show _=_;rw[<- UA.out,lh];exact HU.out.n
 have kb: (k:Int)<=40:=by have:=ML.out;have:=AL.out;omega
 have kc: (k:Int)<=c:=by have:=HU.out.c;omega
 clear zz GA e1 e2 ZA;go_wp2_with fail;refine(kX b2 n2 c2 Z none 0 0 [] (-1) w3 I3.out L2.out LC2.out (by have:=NB.out;omega) (.inl rfl) rfl (by decide)).mono ?_;rintro e w4 ⟨s,rfl,s4,b4⟩;rw[nR,ou,List.take_of_length_le (by rw[L2.out];exact ah)]at s4;have RN:=ad (zR w4 s4);have B4:=ad b4;clear s4 b4;go_wp2_with fail;refine RN.out.mono ?_;rintro e w5 ⟨q,rfl,r5,b5⟩;obtain⟨hi,hhi⟩:=named w5.heap.size;rw[<- hhi.out]at r5;obtain⟨lo,hlo⟩:=named w3.heap.size;rw[<- hlo.out]at r5;have C5:Hid (Below w3.heap.size w3 w5) :=ar B4.out b5;have R5:Hid (eH w5 lo hi q Z 4 (cq (A.take 0)).length 0) :=r5;clear r5 b5 RN hhi B4;go_wp2_with fail;go_loopw [53] (fun i wr=>∃j:Nat,i= .int .i64 j/\j<=k/\Hid (eH wr lo hi q Z 4 (cq (A.take j)).length 0)/\Hid (Below w3.heap.size w3 wr)) (fun i _=>k- (intOf i).toNat)
 case atStart=>exact⟨0,rfl,Nat.zero_le _,R5.out,C5.out⟩
 case round=>
  clear R5 C5;obtain⟨j,rfl,hj,RD,BW⟩:=hrel;have VW:=ad (V3.out.go BW.out);have LO:Hid (B0<=lo) :=by show _<=_;rw[hlo.out];exact V3.out.s
  have HD:=ad (nZ wr RD.out (.inr rfl) VW.out LO.out);by_cases hjk:j<k
  ·obtain⟨b',off,y,rfl,hb,hy,hf,hat⟩:=HU.out.get j hjk;obtain⟨c0,c1,c2',c3,c4,c5⟩:= (hat.below BW.out hb).c hy;have EJ:Hid (A[j]? =some y.n) :=by show _=_;rw[<- UA.out];exact rH hy
   have JN:=ad hjk;have DF:=ad hf.d;obtain⟨f1,f2,f3,f4,f5⟩:=AX GD.out EJ.out ZZ.out;rw[f1]at HD;obtain⟨⟨⟨kk,p,mo,t,s⟩,d⟩,x,xc⟩:=y;have F2:=ad f2;have F3:=ad f3;have F4:=ad f4;have F5:=ad f5;clear hb hat hy hf hjk hj f1 f2 f3 f4 f5;obtain⟨L,hL⟩:=named d.length;have c5':wr.cell? ⟨b',off+j*6+5,none⟩=some (.slice x L xc) :=by rw[hL.out];exact c5
   have DL:Hid (d.length=L) :=hL.out.symm;clear c5 hL;have j1: (j:Int) <k:=by have:=JN.out;omega
   obtain⟨O1,hO1⟩:=named ((cq (A.take j)).length+ (eW ⟨kk,p,mo,t,s⟩).length);rw[<- hO1.out]at F2 F3 F4 F5
   have HD':Hid (∀w6,Below wr.heap.size wr w6->Calls Tryz.prog 32 #[.pointer (some ⟨q,0,none⟩)] w6 fun e w'=>e= .returned (.tuple #[.agg (aR kk p mo t s).toArray,.int .i64 ((cq (A.take j)).length:Int),.int .i64 0])/\eH w' lo hi q Z 4 O1 0/\Out lo hi w6 w') :=fun w6 hb=>by
    have h:=nZ w6 (RD.out.below hb) (.inr rfl) (VW.out.go hb) LO.out;obtain⟨f1,_⟩:=AX GD.out EJ.out ZZ.out;rw[f1,<- hO1.out]at h;exact h
   obtain⟨PJ,hPJ⟩:=named (cq (A.take j)).length;rw[<- hPJ.out]at HD';clear HD hO1 hPJ;have hq:∀w:World,(Op.equalIn 10000 68 (.agg (aR kk p mo t s).toArray) (.agg (aR kk p mo t s).toArray)).run Tryz.prog w= .ok true w:=fun w=>by rw[Flt.zD];simp
   have SZ:=ad RD.out.size;go_wp2_with (first| (refine ag rfl 70 rfl (fD 0 emp 0 emp 0 none 0 0) MZ.out ?_;intro w6 g6 b6;have G6:=ad g6;have B6:=ad b6;clear g6 b6 c0 c1 c2' c3 c4 c5') | (refine ae rfl 70 _ _ rfl wr.heap.size rfl (fD kk p mo t s x L xc) (fD 0 emp 0 emp 0 none 0 0) rfl 70 G6.out MO.out.2 rfl (kD _ _ _ _ _ _ _ _) ?_;intro w7 g7 t7;have G7:=ad g7;have B7:=ad (B6.out.trans (t7.below ah));clear g7 t7));refine(HD'.out w7 B7.out).mono ?_;rintro e w8 ⟨rfl,r8,u8⟩;have R8:=ad r8;have G8:Hid (ak w8 wr.heap.size 70 (fD kk p mo t s x L xc)) :=G7.out.out u8 (.inr SZ.out.1);have B8:Hid (Below w3.heap.size w3 w8) := (ar BW.out B7.out).trans (u8.below (by rw[hlo.out];exact ah) (by have:=BW.out.size;have:=B7.out.size;omega));have L8:Hid (wr.heap.size<w8.heap.size) :=G8.out.lt;clear r8 u8 HD';have g0:=G8.out.get 0 rfl;have g1:=G8.out.get 1 rfl;have g2:=G8.out.get 2 rfl;have g3:=G8.out.get 3 rfl;have g4:=G8.out.get 4 rfl;clear g0 g1 g2 g3 g4;go_wp2_with (first| (refine ag rfl 68 rfl (aR 0 emp 0 emp 0) EZ.out ?_;intro w9 ga ba;have G9:=ad ga;have B9:=ad ba;clear ga ba) | (refine ae rfl 68 _ _ rfl w8.heap.size rfl (aR kk p mo t s) (aR 0 emp 0 emp 0) rfl 68 G9.out EO.out.2 rfl (bt _ _ _ _ _) ?_;intro wa gb tb;have Ga:=ad gb;have Ba:=ad (B9.out.trans (tb.below ah));have d0:=gb.get 0 rfl;have d1:=gb.get 1 rfl;have d2:=gb.get 2 rfl;have d3:=gb.get 3 rfl;have d4:=gb.get 4 rfl;have Ha:=ad (G8.out.below Ba.out L8.out);have g0:=Ha.out.get 0 rfl;have g1:=Ha.out.get 1 rfl;have g2:=Ha.out.get 2 rfl;have g3:=Ha.out.get 3 rfl;have g4:=Ha.out.get 4 rfl;clear gb tb));have Ra:=ad (R8.out.below Ba.out);have RP:=ad (iJ s wa Ra.out (.inr rfl));rw[F2.out,F3.out,F4.out,F5.out]at RP;refine RP.out.mono ?_;rintro e wb ⟨⟨bb,cb,rfl,lb,ib,xb,mb⟩,rb,ub⟩;have Rb:=ad rb;have Bb:Hid (Below w3.heap.size w3 wb) := (ar B8.out Ba.out).trans (ub.below (by rw[hlo.out];exact ah) (by have:=B8.out.size;have:=Ba.out.size;omega));have Hb:Hid (ak wb wr.heap.size 70 (fD kk p mo t s x L xc)) :=Ha.out.out ub (.inr SZ.out.1);have g5:=Hb.out.get 5 rfl;have s1:=bF (P:=Tryz.prog) Tryz.underlying25 Tryz.underlying5 Tryz.underlying9 (ib.bytes (by have:=DF.out.bytes.bytes;exact this)) L cb DL.out;have s2:=bF (P:=Tryz.prog) Tryz.underlying25 Tryz.underlying5 Tryz.underlying9 ((DF.out.below Bb.out).bytes) L xc DL.out;rw[DL.out];clear lb ib xb mb rb ub RP d0 d1 d2 d3 d4 g0 g1 g2 g3 g4;go_wp2_with fail
   go_round
   case rel=>exact⟨j+1,by go_num,JN.out,Rb.out,Bb.out⟩
   case measure=>simp[intOf];have:=JN.out;omega
  ·obtain rfl:j=k:=by omega
   have HD':Hid (Calls Tryz.prog 32 #[.pointer (some ⟨q,0,none⟩)] wr fun e w'=>e= .returned (.tuple #[.agg (aR 0 emp 0 emp 0).toArray,.int .i64 (oA:Int),.int .i64 18])/\Out lo hi wr w') :=by
    have h:=HD.out;rw[show A.take j=A by rw[<- AL.out,List.take_length],<- hoA.out,END.out]at h;exact h.mono fun e w' ⟨h1,_,h3⟩=>⟨h1,h3⟩
   clear HD hjk hj;go_wp2_with fail;refine HD'.out.mono ?_;rintro e w8 ⟨rfl,u8⟩;have B8:Hid (Below w3.heap.size w3 w8) :=BW.out.trans (u8.below (by rw[hlo.out];exact ah) BW.out.size);clear u8 HD';go_wp2_with (first| (refine ag rfl 68 rfl (aR 0 emp 0 emp 0) EZ.out ?_;intro w9 ga ba;have G9:=ad ga;have B9:=ad ba;clear ga ba) | (refine ae rfl 68 _ _ rfl w8.heap.size rfl (aR 0 emp 0 emp 0) (aR 0 emp 0 emp 0) rfl 68 G9.out EO.out.2 rfl (bt _ _ _ _ _) ?_;intro wa gb tb;have Ba:=ad (ar B8.out (B9.out.trans (tb.below ah)));clear gb tb));refine(aX wa HEE.out HDD.out (V3.out.go Ba.out)).mono ?_;rintro e wc ⟨rfl,bc⟩;have Bc:=ad (B3.out.trans ((ar Ba.out bc).mono B3.out.size));clear bc;go_wp2_with fail;go_ret;exact⟨rfl,Bc.out⟩
end Go.Proofs.YtcjagakckffkiaaGreatDoor.Arc
