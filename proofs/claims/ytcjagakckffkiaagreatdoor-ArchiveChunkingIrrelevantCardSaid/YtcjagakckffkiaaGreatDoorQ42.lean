import Derived.Test.YtcjagakckffkiaaGreatDoorQ35
import Derived.Test.YtcjagakckffkiaaGreatDoorQ38
import Derived.Test.YtcjagakckffkiaaGreatDoorQ33
import Derived.Test.YtcjagakckffkiaaGreatDoorQ41
import Derived.Test.YtcjagakckffkiaaGreatDoorQ25
import Derived.Test.YtcjagakckffkiaaGreatDoorQ40
import Derived.Test.YtcjagakckffkiaaGreatDoorQ1
import Derived.Test.YtcjagakckffkiaaGreatDoorQ15
import Derived.Test.YtcjagakckffkiaaGreatDoorQ0
import Derived.Deep.RegionLaw
import Derived.ChangeSame
set_option maxHeartbeats 16000000
namespace Go.Proofs.YtcjagakckffkiaaGreatDoor.Arc
open Go.Lib Go.RowKit Go.Proofs.YtcjagakckffkiaaGreatDoor.Fit bL Pnm Tre Flt dO Reb
set_option maxRecDepth 100000 in
theorem zH:∀L:List Mb,(∀x∈L,jS x)->L.length*512<= (cq L).length
 | [],_=>Nat.zero_le _
 |x::L,h=>by
  have h1:=zH L fun y hy=>h y (List.mem_cons_of_mem _ hy);have h2:=vE x (h x List.mem_cons_self).1;rw[gP,List.length_append,List.length_cons];omega
theorem xA {A:List Mb}(GA:Gd A){Z:List Int}(hZ:Z=cy A)(hl:Z.length<=30000) :nM (canon (aV A)) =Z/\dA (canon (aV A)) = ((A.length:Int),0)/\A.length<=1000/\ (cq (iF (canon (aV A)))).length<=70000000:=by
 have h8:∀p q:Nat,p*512<=q->q+1024<=30000->p<=1000:=fun p q h1 h2=>by omega
 have h7:∀q:Nat,q+1024<=30000->q<=70000000:=fun q h=>by omega
 obtain⟨s1,s2,s3⟩:=GA.strict;have h0: (dA (canon (aV A))).2=0:=by rw[s3]
 have hm:iF (canon (aV A)) =A:=by unfold iF;rw[if_pos h0,pI];exact s2
 have hb: (cq A).length+1024=Z.length:=by rw[hZ];unfold cy;rw[List.length_append,al]
 refine⟨?_,s3,?_,by rw[hm];rw[<- hb]at hl;exact h7 _ hl⟩
 ·unfold nM;rw[if_pos h0,hm,hZ]
 ·have:=zH A (Gd.Pf GA);rw[<- hb]at hl;exact h8 _ _ this hl
theorem Ih {l:List Nd}(h: (dA l).2=0) :canon (aV (iF l)) =canon l:=by
 unfold iF;rw[if_pos h];exact DO (oj (rL.mp h))
set_option maxRecDepth 100000 in
theorem Qq {B0:Nat}(HE:xo B0)(HD:xI B0)(a:Option Addr)(n cap0:Nat)(ys:List aL)(ba:Option Addr)(len cap:Nat)(zs:List Int)(w:World)(V:MV B0 w)(ha:br w a n cap0 ys)(hz:aB .u8 w ba len cap zs) :
 Calls Tryz.prog 6 #[.slice a n cap0,.slice ba len cap] w fun e w'=>e= .returned (.bool true)/\Below w.heap.size w w':=by
 have HA:=ad ha;have HV:=ad V;have HEE:=ad HE;have HDD:=ad HD;have LG:=ad (iU a n cap0 ys w ha);have HN:Hid (ys.length=n) :=ha.n;have HB:=ad hz.bytes;have HL:=ad hz.1;have HC:=ad hz.2.1;have hml:len<=maxLen:=Nat.le_trans hz.2.1 hz.2.2.1;clear ha V HE HD hz;go_enter Tryz.func6,Tryz.ntmps6;go_wp2_with fail;refine LG.out.mono ?_;rintro e w1 ⟨R,rfl,hR,b1⟩;have B1:=ad b1;have V1:=ad (HV.out.go b1);have A1:=ad (HA.out.below b1);clear b1 LG;rcases hR with rfl|⟨rfl,hn,hy⟩
 ·go_wp2_with fail;refine(aX w1 HEE.out HDD.out V1.out).mono ?_;rintro e w2 ⟨rfl,b2⟩;have B2:=ad (B1.out.trans (b2.mono B1.out.size));clear b2;go_wp2_with fail;go_ret;exact⟨rfl,B2.out⟩
 by_cases h3: (30000:Int) <len
 ·go_wp2_with fail;refine(aX w1 HEE.out HDD.out V1.out).mono ?_;rintro e w2 ⟨rfl,b2⟩;have B2:=ad (B1.out.trans (b2.mono B1.out.size));clear b2;go_wp2_with fail;go_ret;exact⟨rfl,B2.out⟩
 have LS:Hid (len<=30000) :=by show _<=_;omega
 obtain⟨BD,N40,ML⟩:=qe HN.out hn hy;have BD:=ad BD;have N40:=ad N40;have ML:=ad ML;clear hn hy;have ZA:=ad (vF (aI ys));have BK:=ad (@Ih (aI ys));have EC:=ad (HEE.out a n cap0 ys w1 A1.out (Nat.le_trans N40.out (by decide)) BD.out V1.out);have TT:=ad (vC (Z:=zs) (.inr rfl) HB.out.bytes);have RB:Hid (∀wq,Below w.heap.size w wq->MV B0 wq->_) :=fun wq hq hv=>HDD.out ba len cap zs wq _ (HB.out.below hq) HL.out HC.out (by have:=LS.out;omega) (iT (.inr rfl) (by have:=HL.out;have:=LS.out;omega)) hv;obtain⟨T,hT⟩:=named (pO zs 4);rw[<- hT.out]at RB TT;obtain⟨Z,hZ⟩:=named (nM (aI ys));obtain⟨X,hX⟩:=named (dA (aI ys)).2;rw[<- hZ.out,<- hX.out]at EC;rw[<- hZ.out,<- hX.out]at ZA;rw[<- hX.out]at BK;obtain⟨A0,hA0⟩:=named (iF (aI ys));rw[<- hA0.out]at ZA BK ML BD;obtain⟨C0,hC0⟩:=named (canon (aI ys));rw[<- hC0.out]at BK;clear hT hZ hA0;obtain⟨tn,tp,te⟩:=T;go_wp2_with fail;refine EC.out.mono ?_;rintro e w2 ⟨b2,n2,c2,rfl,l2,lc2,_,i2,_,bb2⟩;have I2:=ad i2;have L2:=ad l2;have LC2:=ad lc2;have B2:=ad (B1.out.trans (bb2.mono B1.out.size));have V2:=ad (V1.out.go bb2);have A2:=ad (A1.out.below bb2);clear i2 l2 lc2 bb2 EC;by_cases hx:¬X=0
 ·have nx: (X==0) =false:=by simpa using hx
  clear hx;go_wp2_with fail;refine(RB.out w2 (B2.out) (V2.out)).mono ?_;rintro e w6 ⟨⟨a6,n6,c6,z6,rfl,ha6,hz6⟩,b6⟩;have B6:=ad (B2.out.trans (b6.mono B2.out.size));have V6:=ad (V2.out.go b6);have A6:=ad ha6;have Z6:=ad hz6;clear ha6 hz6 b6 RB;by_cases he:¬te=0
  ·have ne: (te !=0) =true:=by simpa using he
   obtain⟨tn0,tp0⟩:tn= []/\tp<=len:=by
    rcases TT.out with h|h
    ·exact⟨h.2.1,by have h2:tp<=zs.length:=h.2.2;have:=HL.out;omega⟩
    ·exact absurd h.1 he
   obtain rfl:n6=0:=by
    have h1:=A6.out.n;have h2:aI z6=tn:=Z6.out;rw[tn0]at h2;have h3:=congrArg List.length h2;rw[bg]at h3;exact h1.symm.trans h3
   have tpi: (tp:Int)<=len:=by omega
   have tpz: (0:Int)<=tp:=by omega
   clear he tn0 tp0;go_wp2_with fail;refine(aX w6 HEE.out HDD.out V6.out).mono ?_;rintro e w7 ⟨rfl,b7⟩;have B7:=ad (B6.out.trans (b7.mono B6.out.size));clear b7;go_wp2_with fail;go_ret;exact⟨rfl,B7.out⟩
  obtain rfl:te=0:=Decidable.not_not.mp he;clear he
  obtain⟨A,GA,ZA,rfl,rfl⟩:∃A,Gd A/\zs=cy A/\tn=canon (aV A)/\len=tp:=by
   rcases TT.out with h|⟨_,A,h1,h2,h3,h4⟩
   ·exact absurd rfl h.1
   ·exact⟨A,h1,h2,h3,(h4.trans HL.out).symm⟩
  obtain⟨q1,q2,q3⟩:=xA GA ZA (by rw[HL.out];exact LS.out);have NZ:Hid (aI z6=canon (aV A)) :=Z6.out;have AL:Hid (A.length=n6) :=by show _=_;have h1:=A6.out.n;have h2:=congrArg List.length NZ.out;rw[bg,eZ,dJ]at h2;omega
  have EZ:Hid (nM (aI z6) =zs/\dA (aI z6) = ((n6:Int),0)) :=by show _/\_;rw[NZ.out,<- AL.out];exact⟨q1,q2⟩
  have EC:=ad (HEE.out a6 n6 c6 z6 w6 A6.out (by have:=AL.out;omega) (by rw[NZ.out];exact q3.2) V6.out);rw[EZ.out.1,EZ.out.2]at EC;clear q1 q2 q3 ZA GA;go_wp2_with fail;refine EC.out.mono ?_;rintro e w7 ⟨b7,n7,c7,rfl,l7,_,_,i7,_,bb7⟩;obtain rfl:n7=len:=l7.symm.trans HL.out;have I7:=ad i7;have B7:=ad (B6.out.trans (bb7.mono B6.out.size));have V7:=ad (V6.out.go bb7);have A7:=ad (A6.out.below bb7);clear l7 i7 bb7 EC;have CK:=ad (rq a6 n6 c6 z6 w7 V7.out.v.f A7.out);rw[EZ.out.2]at CK;go_wp2_with fail;refine CK.out.mono ?_;rintro e w8 ⟨rfl,b8⟩;have I8:=ad (I7.out.below b8);have B8:=ad (B7.out.trans (b8.mono B7.out.size));have V8:=ad (V7.out.go b8);clear b8 CK;go_wp2_with fail;refine(aX w8 HEE.out HDD.out V8.out).mono ?_;rintro e w9 ⟨rfl,b9⟩;have B9:=ad (B8.out.trans (b9.mono B8.out.size));have s1:=bF (P:=Tryz.prog) Tryz.underlying25 Tryz.underlying5 Tryz.underlying9 (I8.out.below b9) n7 c7 HL.out;have s2:=bF (P:=Tryz.prog) Tryz.underlying25 Tryz.underlying5 Tryz.underlying9 ((HB.out.below (B8.out)).below b9) n7 cap HL.out;clear b9;go_wp2_with fail;go_ret;exact⟨rfl,B9.out⟩
 obtain rfl:X=0:=Decidable.not_not.mp hx;clear hx;obtain⟨zz,GA⟩:=ZA.out rfl
 have NB:Hid (n2<=70001024) :=by
  show _<=_;have h1:=L2.out;rw[zz]at h1;unfold cy at h1;rw[List.length_append,al]at h1;have h2:=BD.out;omega
 have RX:Hid (pO Z 4=⟨C0,n2,0⟩) :=by show _=_;rw[zz,Ol GA,BK.out rfl,<- zz,L2.out]
 have IX:Hid (Inv Z 4 (fun B o=>Z.take o=cq B/\∀x∈B,jS x)) :=uw (A0:=A0) (M:= []) (k:=Z.length) (Gd.Pf GA) (Nat.le_trans ML.out (by decide)) (by rw[List.append_nil,<- zz,List.take_length]);have RC:=ad (HDD.out b2 n2 c2 Z w2 _ I2.out L2.out LC2.out (by have:=NB.out;omega) IX.out V2.out);rw[RX.out]at RC;clear zz GA IX RX;go_wp2_with fail;refine RC.out.mono ?_;rintro e w3 ⟨⟨a3,n3,c3,z3,rfl,ha3,hz3⟩,b3⟩;have A3:=ad ha3;have Z3:=ad hz3;have B3:=ad (B2.out.trans (b3.mono B2.out.size));have V3:=ad (V2.out.go b3);have Y3:=ad (A2.out.below b3);clear ha3 hz3 b3 RC;have CN:=ad (yy a n cap0 ys w3 Y3.out (Nat.le_trans N40.out (by decide)));go_wp2_with fail;refine CN.out.mono ?_;rintro e w4 ⟨a4,c4,z4,rfl,ha4,hz4,_,_,b4⟩;have A34:=ad (A3.out.below b4);have B4:=ad (B3.out.trans (b4.mono B3.out.size));have V4:=ad (V3.out.go b4);have SM:=ad (sZ a3 n3 c3 z3 a4 n c4 z4 w4 A34.out ha4);have EQ:Hid (aI z3=aI z4) :=Z3.out.trans (by rw[hz4,<- hC0.out]);clear ha4 hz4 b4 CN hC0;go_wp2_with fail;refine SM.out.mono ?_;rintro e w5 ⟨b0,rfl,hb0,b5⟩;obtain rfl:b0=true:=hb0.mpr EQ.out;have B5:=ad (B4.out.trans (b5.mono B4.out.size));have V5:=ad (V4.out.go b5);clear hb0 b5 SM EQ;go_wp2_with fail;refine(RB.out w5 (B5.out) (V5.out)).mono ?_;rintro e w6 ⟨⟨a6,n6,c6,z6,rfl,ha6,hz6⟩,b6⟩;have B6:=ad (B5.out.trans (b6.mono B5.out.size));have V6:=ad (V5.out.go b6);have A6:=ad ha6;have Z6:=ad hz6;clear ha6 hz6 b6 RB;by_cases he:¬te=0
 ·have ne: (te !=0) =true:=by simpa using he
  obtain⟨tn0,tp0⟩:tn= []/\tp<=len:=by
   rcases TT.out with h|h
   ·exact⟨h.2.1,by have h2:tp<=zs.length:=h.2.2;have:=HL.out;omega⟩
   ·exact absurd h.1 he
  obtain rfl:n6=0:=by
   have h1:=A6.out.n;have h2:aI z6=tn:=Z6.out;rw[tn0]at h2;have h3:=congrArg List.length h2;rw[bg]at h3;exact h1.symm.trans h3
  have tpi: (tp:Int)<=len:=by omega
  have tpz: (0:Int)<=tp:=by omega
  clear he tn0 tp0;go_wp2_with fail;refine(aX w6 HEE.out HDD.out V6.out).mono ?_;rintro e w7 ⟨rfl,b7⟩;have B7:=ad (B6.out.trans (b7.mono B6.out.size));clear b7;go_wp2_with fail;go_ret;exact⟨rfl,B7.out⟩
 obtain rfl:te=0:=Decidable.not_not.mp he;clear he
 obtain⟨A,GA,ZA,rfl,rfl⟩:∃A,Gd A/\zs=cy A/\tn=canon (aV A)/\len=tp:=by
  rcases TT.out with h|⟨_,A,h1,h2,h3,h4⟩
  ·exact absurd rfl h.1
  ·exact⟨A,h1,h2,h3,(h4.trans HL.out).symm⟩
 obtain⟨q1,q2,q3⟩:=xA GA ZA (by rw[HL.out];exact LS.out);have NZ:Hid (aI z6=canon (aV A)) :=Z6.out;have AL:Hid (A.length=n6) :=by show _=_;have h1:=A6.out.n;have h2:=congrArg List.length NZ.out;rw[bg,eZ,dJ]at h2;omega
 have EZ:Hid (nM (aI z6) =zs/\dA (aI z6) = ((n6:Int),0)) :=by show _/\_;rw[NZ.out,<- AL.out];exact⟨q1,q2⟩
 have EC:=ad (HEE.out a6 n6 c6 z6 w6 A6.out (by have:=AL.out;omega) (by rw[NZ.out];exact q3.2) V6.out);rw[EZ.out.1,EZ.out.2]at EC;clear q1 q2 q3 ZA GA;go_wp2_with fail;refine EC.out.mono ?_;rintro e w7 ⟨b7,n7,c7,rfl,l7,_,_,i7,_,bb7⟩;obtain rfl:n7=len:=l7.symm.trans HL.out;have I7:=ad i7;have B7:=ad (B6.out.trans (bb7.mono B6.out.size));have V7:=ad (V6.out.go bb7);have A7:=ad (A6.out.below bb7);clear l7 i7 bb7 EC;have CK:=ad (rq a6 n6 c6 z6 w7 V7.out.v.f A7.out);rw[EZ.out.2]at CK;go_wp2_with fail;refine CK.out.mono ?_;rintro e w8 ⟨rfl,b8⟩;have I8:=ad (I7.out.below b8);have B8:=ad (B7.out.trans (b8.mono B7.out.size));have V8:=ad (V7.out.go b8);clear b8 CK;go_wp2_with fail;refine(aX w8 HEE.out HDD.out V8.out).mono ?_;rintro e w9 ⟨rfl,b9⟩;have B9:=ad (B8.out.trans (b9.mono B8.out.size));have s1:=bF (P:=Tryz.prog) Tryz.underlying25 Tryz.underlying5 Tryz.underlying9 (I8.out.below b9) n7 c7 HL.out;have s2:=bF (P:=Tryz.prog) Tryz.underlying25 Tryz.underlying5 Tryz.underlying9 ((HB.out.below (B8.out)).below b9) n7 cap HL.out;clear b9;go_wp2_with fail;go_ret;exact⟨rfl,B9.out⟩
end Go.Proofs.YtcjagakckffkiaaGreatDoor.Arc
namespace Go.Proofs.YtcjagakckffkiaaGreatDoor
open Go.Lib Go.RowKit Go.Proofs.YtcjagakckffkiaaGreatDoor.Fit bL Pnm Tre Flt dO Reb Arc
theorem jU (a:Option Addr)(n cap:Nat)(ys:List aL)(ba:Option Addr)(len bc:Nat)(zs:List Int)(w:World)(V:fb w)(ha:br w a n cap ys)(hz:aB .u8 w ba len bc zs) :
 Calls Tryz.prog 6 #[.slice a n cap,.slice ba len bc] w fun e w'=>e= .returned (.bool true)/\Below w.heap.size w w':=
 Qq gC gG a n cap ys ba len bc zs w (MV.of V) ha hz
end Go.Proofs.YtcjagakckffkiaaGreatDoor
namespace Go.Proofs.YtcjagakckffkiaaGreatDoor.Arc
open Go.Lib Go.RowKit Go.Proofs.YtcjagakckffkiaaGreatDoor.Fit bL Pnm Tre Flt dO Reb
theorem xS (l:List Nd) :Pe (-1) l= (dA l).2/\Ik (-1) (nM l) =nM l:=by
 refine⟨?_,(qj _).2⟩;unfold Pe;by_cases h: (dA l).2≠0
 ·rw[if_pos h]
 ·rw[if_neg h,(qj _).1];exact(Decidable.not_not.mp h).symm
set_option maxRecDepth 100000 in
theorem Qx {B0:Nat}(HE:xo B0)(HD:xI B0)(HR:Qz B0)(a:Option Addr)(n cap0:Nat)(ys:List aL)(ba:Option Addr)(len cap:Nat)(zs:List Int)(ca:Option Addr)(cl cc:Nat)(cs:List Int)(F:Int)(w:World)(V:MV B0 w)(ha:br w a n cap0 ys)(hz:aB .u8 w ba len cap zs)(hc:aB .i64 w ca cl cc cs) :
 Calls Tryz.prog 9 #[.slice a n cap0,.slice ba len cap,.agg #[.slice ca cl cc,.int .i64 F]] w fun e w'=>e= .returned (.bool true)/\Below w.heap.size w w':=by
 have HA:=ad ha;have HV:=ad V;have HEE:=ad HE;have HDD:=ad HD;have HRR:=ad HR;have HN:Hid (ys.length=n) :=ha.n;have HB:=ad hz.bytes;have HL:=ad hz.1;have HC:=ad hz.2.1;have HI:=ad hc.Bu;have HCL:=ad hc.1;have hml:len<=maxLen:=Nat.le_trans hz.2.1 hz.2.2.1;have hcm:cl<=maxLen:=Nat.le_trans hc.2.1 hc.2.2.1;have I34:Hid (ij Tryz.prog 34 2) :=⟨⟨_,Tryz.underlying34⟩,by kernel_rfl⟩;have Z34:Hid ((Tryz.prog.info? 34).map (·.zero) =some (some (.agg ([.slice none 0 0,.int .i64 0] :List Value).toArray))) :=by show _=_;kernel_rfl
 clear ha V HE HD HR hz hc;go_enter Tryz.func9,Tryz.ntmps9;go_wp2_with (first| (refine aj rfl 34 _ rfl [.slice ca cl cc,.int .i64 F] rfl ?_;intro w1 h1 b1;have H1:=ad h1;have B1:=ad b1;have c0:=h1.get 0 rfl;have c1:=h1.get 1 rfl;clear h1 b1));have V1:=ad (HV.out.go B1.out);have A1:=ad (HA.out.below B1.out);refine(iU a n cap0 ys w1 A1.out).mono ?_;rintro e w2 ⟨R,rfl,hR,b2⟩;have B2:=ad (B1.out.trans (b2.mono B1.out.size));have V2:=ad (V1.out.go b2);have A2:=ad (A1.out.below b2);have H2:=ad (H1.out.below b2 H1.out.lt);have c0:=H2.out.get 0 rfl;have c1:=H2.out.get 1 rfl;clear b2;rcases hR with rfl|⟨rfl,hn,hy⟩
 ·go_wp2_with fail;refine(aX w2 HEE.out HDD.out V2.out).mono ?_;rintro e w3 ⟨rfl,b3⟩;have B3:=ad (B2.out.trans (b3.mono B2.out.size));clear b3;go_wp2_with fail;go_ret;exact⟨rfl,B3.out⟩
 by_cases h30: (30000:Int) <len
 ·go_wp2_with fail;refine(aX w2 HEE.out HDD.out V2.out).mono ?_;rintro e w3 ⟨rfl,b3⟩;have B3:=ad (B2.out.trans (b3.mono B2.out.size));clear b3;go_wp2_with fail;go_ret;exact⟨rfl,B3.out⟩
 by_cases h300: (300:Int) <cl
 ·go_wp2_with fail;refine(aX w2 HEE.out HDD.out V2.out).mono ?_;rintro e w3 ⟨rfl,b3⟩;have B3:=ad (B2.out.trans (b3.mono B2.out.size));clear b3;go_wp2_with fail;go_ret;exact⟨rfl,B3.out⟩
 have LS:Hid (len<=30000/\cl<=1000) :=⟨by omega,by omega⟩;obtain⟨BD,N40,ML⟩:=qe HN.out hn hy;have BD:=ad BD;have N40:=ad N40;clear hn hy ML
 have HCR:Hid (∀w3 S m cs,iz w3 S m [] (-1) cs 0->br w3 a n cap0 ys->MV B0 w3-> (∀k,S k->B0<=k)->Calls Tryz.prog 24 #[.slice a n cap0,.pointer (some ⟨m,0,none⟩)] w3 fun e w'=>e= .returned (.int .i64 (dA (aI ys)).2)/\ (∃S' cs' r,iz w' S' m (nM (aI ys)) (-1) cs' r/\∀k,S' k->Grow S w3 w' k)/\aA S w3 w') :=fun w3 S m cs hs h1 h2 h3=>by
  have h:=At a n cap0 ys w3 h1 (Nat.le_trans N40.out (by decide)) BD.out h2.f hs (by decide) h3;rw[(xS _).1,(xS _).2]at h;exact h
 have IS:Hid (Inv zs 4 (fun A o=>A.length*512<=o)) :=iT (.inr rfl) (by have:=HL.out;have:=LS.out;omega);obtain⟨Z,hZ⟩:=named (nM (aI ys));obtain⟨X,hX⟩:=named (dA (aI ys)).2;rw[<- hZ.out,<- hX.out]at HCR;obtain⟨T,hT⟩:=named (pO zs 4);clear hZ hX;go_wp2_with (first| (refine aG rfl 34 2 I34.out _ rfl w2.heap.size rfl 34 [.slice ca cl cc,.int .i64 (-1)] H4.out rfl ?_) | (refine ag rfl 34 rfl [.slice none 0 0,.int .i64 0] Z34.out ?_;intro w3 h3 b3;have H3:=ad h3;have B3:=ad b3;clear h3 b3) | (refine ae rfl 34 _ _ rfl w2.heap.size rfl [.slice ca cl cc,.int .i64 (-1)] [.slice none 0 0,.int .i64 0] rfl 34 H3.out I34.out.2 rfl (by simp[Value.oneCell']) ?_;intro w4 h4 t4;have H4:=ad h4;have B4:=ad (B3.out.trans (t4.below ah));clear h4 t4));have V4:=ad (V2.out.go B4.out);have A4:=ad (A2.out.below B4.out);have C4:=ad (B2.out.trans (B4.out.mono B2.out.size));clear H1 H2 c0 c1;refine(uQ ca cl cc cs (-1) w4 (HI.out.below C4.out) HCL.out LS.out.2).mono ?_;rintro e w5 ⟨ms,rfl,k5,b5⟩;have K5:=ad k5;have B5:=ad b5;clear k5 b5;go_wp2_with fail;refine(uQ none 0 0 [] (-1) w5 (.inl rfl) rfl (by decide)).mono ?_;rintro e w6 ⟨mt,rfl,k6,b6⟩;have S6:=ad (K5.out.below b6);have T6:=ad k6;have B6:=ad (ar B5.out b6);have Z6:Hid (w4.heap.size<=w5.heap.size/\w5.heap.size<=w6.heap.size) :=⟨B5.out.size,b6.size⟩;clear k6 b6 K5 B5;go_wp2_with fail;have V4s:=ad V4.out.s;refine wp_region_held_drew (S:=fun _=>True) (by kernel_rfl) trivial (fun hHeld=>?_);refine aJ 0 (h:=aJ 1 (h:=aJ 3 (h:=aJ 4 (h:=?_))));simp only[Act.put,bB,bC,bD];refine rd 2 (fun K hK=>?_);go_simp;have D6:Below w6.heap.size w6 w6.drew:=aF.drew;refine(HCR.out w6.drew _ ms cs (S6.out.below D6) ((A4.out.below B6.out).below D6) ((V4.out.go B6.out).go D6) (fun k h=>Nat.le_trans V4s.out h.1)).mono ?_;rintro e w7 ⟨rfl,⟨S7,cs7,r7,k7,s7⟩,o7⟩;have K7:=ad k7;have Q7:Hid (∀k,S7 k-> (w4.heap.size<=k/\k<w5.heap.size)\/w6.heap.size<=k) :=fun k h=> (s7 k h).imp id fun h=>h.1;have T7:=ad ((T6.out.below D6).only o7 fun k h c=>by have h1:w5.heap.size<=k:=h.1;have h2:k<w5.heap.size:=c.2;omega);have B7:Hid (Below w4.heap.size w4 w7) := (ar B6.out D6).trans (o7.below (fun k h=>h.1) (by have:=B6.out.size;exact this));have Z7:Hid (w6.heap.size<=w7.heap.size) :=o7.size;clear k7 s7 o7 D6 S6 T6;go_wp2_with fail;refine hK.out _ _ trivial (fun hHeld=>?_);clear hK K
 (try simp only[Act.put,bB,bC,bD])
 refine rd 5 (fun K hK=>?_);go_simp;refine(HCR.out w7 _ mt [] T7.out (A4.out.below B7.out) (V4.out.go B7.out) (fun k h=>by have h1:w5.heap.size<=k:=h.1;have:=V4s.out;have:=Z6.out;omega)).mono ?_;rintro e w8 ⟨rfl,⟨S8,cs8,r8,k8,s8⟩,o8⟩;have T8:=ad k8;have K8:=ad (K7.out.only o8 fun k h c=>by have h1:=Q7.out k h;have h2:w5.heap.size<=k:=c.1;have h3:k<w6.heap.size:=c.2;omega);have B8:Hid (Below w4.heap.size w4 w8) :=B7.out.trans (o8.below (fun k h=>by have h1:w5.heap.size<=k:=h.1;have:=Z6.out;omega) B7.out.size);clear k8 s8 o8 K7 T7 Q7;go_wp2_with fail;refine hK.out _ _ trivial (fun hHeld=>?_);clear hK K
 (try simp only[Act.put,bB,bC,bD])
 refine aJ 6 (h:=aJ 7 (h:=aJ 8 (h:=aJ 11 (h:=?_))));simp only[Act.put,bB,bC,bD];refine rd 9 (fun K hK=>?_);go_simp;refine(lR w8 K8.out).mono ?_;rintro e w9 ⟨v9,rfl,o9,b9⟩;obtain⟨a9,c9,rfl,i9,_,_,l9,_⟩:=bl o9;have ZN:Hid (Z.length=Z.length) :=rfl;have B9:=ad (ar B8.out b9);have T9:=ad (T8.out.below b9);have I9:=ad (i9.bytes K8.out.bytes.1);obtain⟨N,hN⟩:=named Z.length;rw[<- hN.out];have CV9:Hid (∀wS,Below w9.heap.size w9 wS-> (convert 25 9 (.slice a9 N c9)).run Tryz.prog wS= .ok (.string (strOfNums Z)) wS) :=fun wS h=>bF Tryz.underlying25 Tryz.underlying5 Tryz.underlying9 (I9.out.below h) N c9 hN.out.symm;clear o9 b9 i9 l9 ZN;go_wp2_with fail;refine hK.out _ _ trivial (fun hHeld=>?_);clear hK K
 (try simp only[Act.put,bB,bC,bD])
 refine fN (S2:=fun wS=> (convert 25 9 (.slice a9 N c9)).run Tryz.prog wS= .ok (.string (strOfNums Z)) wS) (fun _ _=>trivial) ?_;have hHeld: (fun wS=> (convert 25 9 (.slice a9 N c9)).run Tryz.prog wS= .ok (.string (strOfNums Z)) wS) w9:=CV9.out w9 aF;refine tk 10 ?_;simp only[Act.put,bB,bC,bD];refine rd 12 (fun K hK=>?_);go_simp;refine(lR w9 T9.out).mono ?_;rintro e wa ⟨va,rfl,oa,ba_⟩;obtain⟨aa,c_a,rfl,ia,_,_,la,_⟩:=bl oa;have Ba:=ad (ar B9.out ba_);have KP:=CV9.out wa ba_;have Ia:=ad (ia.bytes T9.out.bytes.1);rw[<- hN.out];have CVa:Hid (∀wS,Below wa.heap.size wa wS-> (convert 25 9 (.slice aa N c_a)).run Tryz.prog wS= .ok (.string (strOfNums Z)) wS) :=fun wS h=>bF Tryz.underlying25 Tryz.underlying5 Tryz.underlying9 (Ia.out.below h) N c_a hN.out.symm;have KPH:=ad KP;clear oa ba_ ia la KP;go_wp2_with fail;refine hK.out _ _ KPH.out (fun hHeld=>?_);clear hK K
 (try simp only[Act.put,bB,bC,bD])
 refine fN (S2:=fun wS=> (convert 25 9 (.slice aa N c_a)).run Tryz.prog wS= .ok (.string (strOfNums Z)) wS/\ (fun wS=> (convert 25 9 (.slice a9 N c9)).run Tryz.prog wS= .ok (.string (strOfNums Z)) wS) wS) (fun _ h=>h.2) ?_;have hHeld: (fun wS=> (convert 25 9 (.slice aa N c_a)).run Tryz.prog wS= .ok (.string (strOfNums Z)) wS/\ (fun wS=> (convert 25 9 (.slice a9 N c9)).run Tryz.prog wS= .ok (.string (strOfNums Z)) wS) wS) wa:=⟨CVa.out wa aF,hHeld⟩;refine aJ 13 (h:=aJ 14 (h:=aJ 15 (h:=?_)));simp only[Act.put,bB,bC,bD];refine wpAnyH_done (by kernel_rfl) ?_ _;have Va:=ad (V4.out.go Ba.out);have Ha:=ad (H4.out.below Ba.out H4.out.lt);have Ca:=ad (C4.out.trans (Ba.out.mono C4.out.size));clear hHeld CVa CV9 KPH K8 T8 T9 I9 Ia H4;go_wp2_with (first| (refine aG rfl 34 2 I34.out _ rfl w2.heap.size rfl 34 [.slice ca cl cc,.int .i64 (-1)] Ha.out rfl ?_));refine(kX ba len cap zs ca cl cc cs (-1) wa (HB.out.below Ca.out) HL.out HC.out (by have:=LS.out;omega) (HI.out.below Ca.out) HCL.out (by have:=LS.out;omega)).mono ?_;rintro e wb ⟨s,rfl,sb,bb⟩;rw[nR,ou,List.take_of_length_le (by rw[HL.out];exact ah)]at sb;have RC:=ad (HRR.out wb _ _ _ _ _ _ _ sb bb.size (.inr rfl) HB.out.bytes IS.out (Va.out.go bb) Va.out.s);rw[<- hT.out]at RC;have Bb:=ad bb;clear sb bb;go_wp2_with fail;refine RC.out.mono ?_;rintro e wc ⟨⟨a3,n3,c3,z3,rfl,ha3,hz3⟩,bc⟩;have Bc:=ad (Ca.out.trans ((Bb.out.trans bc).mono Ca.out.size));have Vc:=ad (Va.out.go (Bb.out.trans bc));have A3:=ad ha3;have Z3:=ad hz3;clear bc ha3 hz3 RC;have RC:=ad (HDD.out ba len cap zs wc _ (HB.out.below Bc.out) HL.out HC.out (by have:=LS.out;omega) IS.out Vc.out);rw[<- hT.out]at RC;go_wp2_with fail;refine RC.out.mono ?_;rintro e wd ⟨⟨a4,n4,c4,z4,rfl,ha4,hz4⟩,bd⟩;have Bd:=ad (Bc.out.trans (bd.mono Bc.out.size));have Vd:=ad (Vc.out.go bd);have A34:=ad (A3.out.below bd);have AA4:=ad ha4;have EQ:Hid (aI z3=aI z4) :=Z3.out.trans hz4.symm;clear bd ha4 hz4 RC;have AL:=ad (aX wd HEE.out HDD.out Vd.out);go_wp2_with fail;refine AL.out.mono ?_;rintro e we ⟨rfl,be⟩;have Be:=ad (Bd.out.trans (be.mono Bd.out.size));have SM:=ad (sZ a3 n3 c3 z3 a4 n4 c4 z4 we (A34.out.below be) (AA4.out.below be));clear be AL;go_wp2_with fail;refine SM.out.mono ?_;rintro e wf ⟨b0,rfl,hb0,bf⟩;obtain rfl:b0=true:=hb0.mpr EQ.out;have Bf:=ad (Be.out.trans (bf.mono Be.out.size));clear hb0 bf SM;go_wp2_with fail;go_ret;exact⟨rfl,Bf.out⟩
end Go.Proofs.YtcjagakckffkiaaGreatDoor.Arc
namespace Go.Proofs.YtcjagakckffkiaaGreatDoor
open Go.RowKit Go.ChangeShapes
theorem rh {H:Type}{enc:TypeId×Value->H}{P:Program}{w:World}{base:Nat}{held:Bool}{t e:TypeId}{f0 f1:Field}{k k':IntKind}{cs:Array Value}{d:DataW H}{p:List MemPlace}
 (ht:P.underlying t=some (.struct #[f0,f1]))(h0:P.underlying f0.type=some (.slice e))(he:P.underlying e=some (.int k))(h1:P.underlying f1.type=some (.int k'))
 (hs: (P.cellsOf t,f0.offset,P.cellsOf f0.type,f1.offset,P.cellsOf f1.type,P.cellsOf e) = (2,0,1,1,1,1))(h:DataW.Trod enc P w base (fun _=>true) held t (.agg cs) d p) :
 ∃(a:Option Addr) (len cap:Nat) (zs:List Int) (F:Int),cs= #[.slice a len cap,.int k' F]/\aB k w a len cap zs/\ (Lit.int k' F).wf=true:=by
 simp only[Prod.mk.injEq]at hs;obtain⟨s1,s2,s3,s4,s5,s6⟩:=hs;obtain⟨fuel,hf⟩:=h;obtain⟨y0,y1,m,_,hl,hy0,hy1⟩:=trod_struct2 ht hf;simp only[Value.cells]at hl hy0 hy1;rw[s1]at hl;obtain⟨l⟩:=cs
 match l,hl with
 | [c0,c1],_=>
 rw[s2,s3]at hy0;rw[s4,s5]at hy1;simp at hy0 hy1;obtain⟨F,e1,_,wF⟩:=DataW.trod_int h1 hy1;simp at e1;subst e1;rcases open_ints h0 he s6 hy0 with⟨hcs,_⟩|⟨x,len,cap,zs,hcs,_,hl,hm,hz,_,hcell,hwz⟩
 ·simp at hcs;subst hcs;exact⟨none,0,0,[],F,rfl,aB.nil,wF⟩
 ·simp at hcs;subst hcs;exact⟨some x,len,cap,_,F,rfl,aB.mk' hl hm (by simpa using hz) hcell hwz,wF⟩
end Go.Proofs.YtcjagakckffkiaaGreatDoor
namespace Go.Proofs.YtcjagakckffkiaaGreatDoor
open Go.Lib Go.RowKit Go.Proofs.YtcjagakckffkiaaGreatDoor.Fit bL Pnm Tre Flt dO Reb Arc
theorem fF (a:Option Addr)(n cap:Nat)(ys:List aL)(ba:Option Addr)(len bc:Nat)(zs:List Int)(ca:Option Addr)(cl cc:Nat)(cs:List Int)(F:Int)(w:World)(V:fb w)(ha:br w a n cap ys)(hz:aB .u8 w ba len bc zs)(hc:aB .i64 w ca cl cc cs)(_: (Lit.int .i64 F).wf=true) :
 Calls Tryz.prog 9 #[.slice a n cap,.slice ba len bc,.agg #[.slice ca cl cc,.int .i64 F]] w fun e w'=>e= .returned (.bool true)/\Below w.heap.size w w':=
 Qx gC gG qG a n cap ys ba len bc zs ca cl cc cs F w (MV.of V) ha hz hc
end Go.Proofs.YtcjagakckffkiaaGreatDoor
