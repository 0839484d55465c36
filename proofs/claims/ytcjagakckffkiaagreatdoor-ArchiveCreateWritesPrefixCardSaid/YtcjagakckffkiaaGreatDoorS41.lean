import Derived.Test.YtcjagakckffkiaaGreatDoorS40
set_option maxHeartbeats 16000000
set_option maxRecDepth 100000
namespace Go.Proofs.YtcjagakckffkiaaGreatDoor
namespace Arc
open Go.Lib Go.RowKit Go.Proofs.YtcjagakckffkiaaGreatDoor.Fit Pxr Pnm Tre Flt fQ Reb
theorem As {l:List Nd}(h: (cA l).2=0) :Gd (gQ l) :=by
 have hc:=lS (lU.mp h);unfold gQ;rw[if_pos h];exact Cx hc
theorem tC (l:List Nd) : (cA l).2≠0->nN l= [] :=fun h=>by unfold nN;rw[if_neg h]
theorem Cv (l:List Nd) : (cA l).2=0->nN l=sk (gQ l)/\Gd (gQ l) :=fun h=>⟨by unfold nN;rw[if_pos h],As h⟩
theorem Ad {ys:List aP}{n:Nat}(HN:ys.length=n)(hn:n<=40)(hy:∀u∈ys,u.n.p.size<=70000/\u.n.t.size<=70000/\u.n.d.length<=70000) : (dJ (gQ (ax ys))).length<=70000000/\n<=40/\ (gQ (ax ys)).length<=40:=
 ⟨Nat.le_trans (wI (l:=ax ys) (by rw[aV,HN];exact hn) (fun y h=>by
  unfold ax at h;obtain⟨u,hu,rfl⟩:=List.mem_map.mp h;exact(hy u hu).2.2)) (by decide),hn,Nat.le_trans (uo _) (by rw[aV,HN];exact hn)⟩
end Arc
section
open Go.RowKit
theorem uE (ca:Option Addr)(cl cc:Nat)(cs:List Int)(F:Int)(w:World)(hi:eH .i64 w ca cs)(hcl:cs.length=cl)(hc:cl<=1000) :
 Calls Tryz.prog 23 #[.agg #[.slice ca cl cc,.int .i64 F]] w fun e w'=>∃m,e= .returned (.pointer (some ⟨m,0,none⟩))/\
  fU w' (fun k=>w.heap.size<=k/\k<w'.heap.size) m [] F cs 0/\Below w.heap.size w w':=by
 have HI:=aa hi;have HCL:=aa hcl;have HC:=aa hc;clear hi hcl hc;go_enter Tryz.func23,Tryz.ntmps23;go_wp2_with (refine af rfl 34 _ rfl [.slice ca cl cc,.int .i64 F] rfl ?_;intro w1 h1 b1;have H1:=aa h1;have B1:=aa b1;have c0:=h1.get 0 rfl;have c1:=h1.get 1 rfl;clear h1 b1);refine(pF ca cl cc cs w1 (HI.out.below B1.out) HCL.out (by have:=HC.out;omega)).mono ?_;rintro e w2 ⟨v2,rfl,o2,b2⟩;obtain⟨sa,sc,rfl,i2,_,_,_,x2⟩:=bj o2;have H2:=aa (H1.out.below b2 H1.out.lt);have g0:=H2.out.get 0 rfl;have g1:=H2.out.get 1 rfl;have f0:=H2.out.frozen 0;have B2:=aa b2;have I2:=aa i2;have X2:=aa x2;clear o2 b2 i2 x2 c0 c1;have Z1:=B1.out.size;have Z2:=B2.out.size;have L1:=H1.out.lt;go_wp2_with (first| (refine af rfl 110 _ rfl [.slice sa cl sc,.int .i64 F,.slice none 0 0,.int .i64 0] rfl ?_;intro w6 h6 b6;have H6:=aa h6;have B6:=aa b6;clear h6 b6));go_ret;obtain⟨ws,hs⟩:=named (w2.setCell ⟨w.heap.size,0,none⟩ (.slice sa cl sc));have hz:ws.heap.size=w2.heap.size:=by rw[hs.out];simp[World.setCell]
 have BS:Below w.heap.size w2 ws:=by rw[hs.out];exact(Below.refl w.heap.size w2).setCell (p:=⟨w.heap.size,0,none⟩) aj _
 have IS:eH .i64 ws sa cs:=by rw[hs.out];exact I2.out.set _ fun x hx=>by have:= (X2.out x hx).1;omega
 have h6:=H6.out;have b6:=B6.out;rw[<- hs.out,hz]at h6;rw[<- hs.out]at b6;have l6:=h6.lt;refine⟨w2.heap.size,rfl,⟨none,0,sa,sc,by rw[HCL.out];exact h6,⟨rfl,.inl ⟨rfl,rfl⟩⟩,fun z hz=> (by simp at hz),IS.below b6,by rw[HCL.out];exact HC.out,by simp,?_,fun k hk=>hk.2,fun x hx=> (by cases hx),fun x hx=>?_,Nat.zero_le _,fun h=>by simpa using h⟩,((B1.out.trans (B2.out.mono Z1)).trans BS).trans (b6.mono (by omega))⟩
 ·exact⟨by omega,l6⟩
 ·have:=X2.out x hx;exact⟨⟨by omega,by omega⟩,by omega,fun y hy=>by cases hy⟩
end
namespace Arc
open Go.Lib Go.RowKit Go.Proofs.YtcjagakckffkiaaGreatDoor.Fit Pxr Pnm Tre Flt fQ Reb
noncomputable def DH (F:Int)(l:List Nd) :Int:=if(cA l).2≠0 then(cA l).2 else vh F (nN l)
theorem wY (F:Int) :wk F [] = [] :=by unfold wk;split<;>simp
theorem Bd (v:Value)(w:World) :Calls Tryz.prog 24 #[v,.pointer none] w fun e w'=>e= .returned (.int .i64 1)/\w=w':=by
 go_enter Tryz.func24,Tryz.ntmps24;go_wp2_with fail;go_ret;exact⟨rfl,rfl⟩
theorem uy {S:Nat->Prop}{m B0:Nat}{F:Int}{cs:List Int}(a:Option Addr)(n cap:Nat)(ys:List aP)(w:World)(ha:bA w a n cap ys)(hn:n<=1000)(hL: (dJ (gQ (ax ys))).length<=70000000)(V:FV B0 w)(h:fU w S m [] F cs 0)(hF:F<=9223372036854775807)(hB:∀k,S k->B0<=k) :
 Calls Tryz.prog 24 #[.slice a n cap,.pointer (some ⟨m,0,none⟩)] w fun e w'=>e= .returned (.int .i64 (DH F (ax ys)))/\
  (∃S' cs' r,fU w' S' m (wk F (nN (ax ys))) F cs' r/\∀k,S' k->Grow S w w' k)/\aZ S w w':=by
 have HH:=aa h;have HV:=aa V;have HL:=aa hL;have HF:=aa hF;have HB:=aa hB;have PM:=aa (yp a n cap ys w V.v ha hn);have ZB:=aa (tC (ax ys));have ZO:=aa (Cv (ax ys));obtain⟨Z,hZ⟩:=named (nN (ax ys));obtain⟨R,hR⟩:=named (DH F (ax ys));have RX:Hid (R=if(cA (ax ys)).2≠0 then(cA (ax ys)).2 else vh F Z) :=by show _=_;rw[hR.out,hZ.out];rfl
 rw[<- hZ.out]at ZB ZO;rw[<- hZ.out,<- hR.out];clear ha hn hL V h hF hB hZ hR;go_enter Tryz.func24,Tryz.ntmps24;go_wp2_with fail;refine PM.out.mono ?_;rintro e w1 ⟨b,k,c,us,X1,X2,rfl,_,h2,hu,hm,b1,hb,hd⟩;have HU:=aa hu;have HM:=aa hm;have B1:=aa b1;have H2:=aa h2;have FB:=aa hb;have FD:=aa hd;rw[<- h2]at RX ZB ZO;clear hu hm b1 h2 hb hd PM;by_cases hx:¬X2=0
 ·have nx: (X2 !=0) =true:=by simpa using hx
  have RE:Hid (R=X2) :=by show _=_;rw[RX.out,if_pos hx]
  have ZE:Hid (Z= []) :=ZB.out hx;clear hx RX ZB ZO;go_wp2_with fail;go_ret;rw[RE.out,ZE.out,wY];obtain⟨k1,k2⟩:=HH.out.stay B1.out;exact⟨rfl,⟨_,_,_,k1,fun k h=>h⟩,k2⟩
 obtain rfl:X2=0:=Decidable.not_not.mp hx;have RE:Hid (R=vh F Z) :=by show _=_;rw[RX.out,if_neg hx]
 obtain⟨zz,GA⟩:=ZO.out rfl;have OKA:=aa (Gd.Gy GA);have ZZ:=aa zz;clear hx RX ZB ZO zz GA;go_wp2_with fail;refine(BV w1 (HH.out.below B1.out)).mono ?_;rintro e w2 ⟨q,rfl,k2,b2⟩;have K2:=aa k2;have B2:=aa b2;have V2:=aa ((HV.out.go B1.out).go b2);have HS:=HH.out.lt
 have PW:=aa (yx (B0:=B0) b k c us _ w2 k2 V2.out (fun k hk=>hk.elim (HB.out k) fun h=>by have:=HV.out.s;have:=B1.out.size;omega) (HU.out.below b2) HM.out OKA.out HL.out HF.out (fun hne x hx c=>by
  have h1:=FB.out x hx;rcases HU.out.r with h|⟨b',off,hb',hlt,_⟩
  ·exact hne h
  ·rw[hx]at hb';injection hb' with hb';rw[hb']at c h1;rcases c with c|c
   ·have:=HS _ c;have h2:w.heap.size<=b':=h1;have h3:b'<w.heap.size:=this;omega
   ·have h2:w1.heap.size<=b':=c.1;omega) (fun u hu hne x hx c=>by
  have h1:=FD.out u hu x hx;obtain⟨b',off,hb',hlt⟩:= ((HU.out.s u hu).d.vv).plain (by have:u.n.d.length≠0:=fun e=>hne (List.length_eq_zero_iff.mp e);omega);rw[hx]at hb';injection hb' with hb';rw[hb']at c h1;rcases c with c|c
  ·have:=HS _ c;have h2:w.heap.size<=b':=h1;have h3:b'<w.heap.size:=this;omega
  ·have h2:w1.heap.size<=b':=c.1;omega))
 rw[<- ZZ.out]at PW;clear k2 b2 HS;go_wp2_with fail;refine PW.out.mono ?_;rintro e w3 ⟨rfl,⟨S',cs',r,k3,s3⟩,o3⟩;have K3:=aa k3;have S3:=aa s3;have O3:=aa o3;clear k3 s3 o3 PW;go_wp2_with fail;go_ret;rw[RE.out]
 exact⟨rfl,⟨S',cs',r,K3.out,fun k hk=>by
  rcases S3.out k hk with h|h
  ·exact h.imp id fun h=>⟨Nat.le_trans B1.out.size h.1,Nat.lt_of_lt_of_le h.2 O3.out.size⟩
  ·exact .inr ⟨Nat.le_trans (Nat.le_trans B1.out.size B2.out.size) h,K3.out.lt k hk⟩⟩,iz (aZ.aW (ar B1.out B2.out) aj) O3.out fun k hk=>hk.imp id fun h=>Nat.le_trans B1.out.size h.1⟩
theorem ye {B0:Nat}(a:Option Addr)(n cap:Nat)(ys:List aP)(w:World)(ha:bA w a n cap ys)(hn:n<=1000)(hL: (dJ (gQ (ax ys))).length<=70000000)(V:MV B0 w) :
 Calls Tryz.prog 14 #[.slice a n cap] w (eO (nN (ax ys)) (cA (ax ys)).2 w) :=by
 have HA:=aa ha;have HV:=aa V;have HL:=aa hL;have HN:=aa hn
 have e1:DH (-1) (ax ys) = (cA (ax ys)).2:=by
  unfold DH;by_cases h: (cA (ax ys)).2≠0
  ·rw[if_pos h]
  ·rw[if_neg h,(tQ _).1];exact(Decidable.not_not.mp h).symm
 have e2:= (tQ (nN (ax ys))).2
 have HC:Hid (∀w1 S m cs,Below w.heap.size w w1->fU w1 S m [] (-1) cs 0-> (∀k,S k->w.heap.size<=k)->Calls Tryz.prog 24 #[.slice a n cap,.pointer (some ⟨m,0,none⟩)] w1 fun e w'=>e= .returned (.int .i64 (cA (ax ys)).2)/\ (∃S' cs' r,fU w' S' m (nN (ax ys)) (-1) cs' r)/\aZ S w1 w') :=fun w1 S m cs hb hs hk=>by
  have:=uy a n cap ys w1 (HA.out.below hb) HN.out HL.out (HV.out.go hb).f hs (by decide) (fun k h=>Nat.le_trans HV.out.s (hk k h));rw[e1,e2]at this;exact this.mono fun e w' ⟨h1,⟨S',cs',r,h2,_⟩,h3⟩=>⟨h1,⟨S',cs',r,h2⟩,h3⟩
 obtain⟨Z,hZ⟩:=named (nN (ax ys));obtain⟨X,hX⟩:=named (cA (ax ys)).2;rw[<- hZ.out,<- hX.out]at HC;rw[<- hZ.out,<- hX.out];clear ha V hn hL e1 e2 hZ hX;go_enter Tryz.func14,Tryz.ntmps14;go_wp2_with fail;refine(uE none 0 0 [] (-1) w (.inl rfl) rfl (by decide)).mono ?_;rintro e w1 ⟨m,rfl,k1,b1⟩;have K1:=aa k1;have B1:=aa b1;have C1:=aa (HC.out w1 _ m [] b1 k1 fun k h=>h.1);clear k1 b1 HC;go_wp2_with fail;refine C1.out.mono ?_;rintro e w2 ⟨rfl,⟨S',cs',r,k2⟩,o2⟩;have K2:=aa k2;have B2:=aa (B1.out.trans (o2.below (fun k h=>h.1) B1.out.size));have BS:=aa (gJ w2 k2);have BY:=aa k2.bytes;clear k2 o2 C1;go_wp2_with fail;refine BS.out.mono ?_;rintro e w3 ⟨v,rfl,o3,b3⟩;have O3:=aa o3;have B3:=aa (B2.out.trans (b3.mono B2.out.size));clear o3 b3;go_wp2_with fail;go_ret2;exact .own O3.out BY.out.1 B2.out.size B3.out
end Arc
namespace fQ
open Go.RowKit Go.Proofs.YtcjagakckffkiaaGreatDoor.Fit Pxr Pnm
theorem uB (d:Int)(w:World) :Calls Tryz.prog 105 #[.int .u8 d] w fun e w'=>e= .returned (.bool (d !=0))/\w=w':=by
 go_enter Tryz.func105,Tryz.ntmps105;go_wp2;go_ret;exact⟨rfl,rfl⟩
theorem yh (a:Option Addr)(n c:Nat)(P:List Int)(w:World)(hi:eH .u8 w a P)(hl:P.length=n)(hn:n<=9223372036854775807) :
 Calls Tryz.prog 67 #[.slice a n c,.func (.func 105) #[] #[]] w fun e w'=>e= .returned (.int .i64 (if qu P<n then(qu P:Int)else-1))/\w=w':=by
 have HI:=aa hi;have HL:=aa hl;have hn': (n:Int)<=9223372036854775807:=by omega
 obtain⟨R,hR⟩:=named (if qu P<n then(qu P:Int)else-1);obtain⟨k,hk⟩:=named (qu P);rw[<- hR.out];clear hi hl hn;go_enter Tryz.func67,Tryz.ntmps67;go_wp2_with fail;go_loop [5,8] (fun _ i=>∃j:Nat,j<=k/\i= .int .i64 j) (fun _ i=>n- (intOf i).toNat)
 case atStart=>exact⟨0,Nat.zero_le _,rfl⟩
 case round=>
  obtain⟨j,hj,rfl⟩:=hrel;have HJ:=aa hj;clear hj;have hkn:k<=n:=by rw[hk.out,<- HL.out];exact sQ P
  by_cases hlt:j<n
  ·have hlt': (j:Int) <n:=by omega
   obtain⟨b,off,rfl,_⟩:=HI.out.plain (by rw[HL.out];omega);obtain⟨d,hd⟩:=named (P.getD j 0);have hcell:=HI.out.get j (by rw[HL.out];exact hlt);rw[<- hd.out]at hcell;by_cases hjk:j<k
   ·have bX:d=0:=by rw[hd.out];exact rq (by rw[<- hk.out];exact hjk)
    have hne: (d !=0) =false:=by rw[bX];rfl
    clear hd bX;go_wp2_with fail;refine(uB d w).mono ?_;rintro e w1 ⟨rfl,rfl⟩;rw[hne];go_wp2_with fail
    go_round
    case rel=>exact⟨j+1,by omega,by go_num⟩
    case measure=>simp[intOf];omega
   ·obtain rfl:j=k:=by have:=HJ.out;omega
    have bX:d≠0:=by rw[hd.out,hk.out];exact xS (by rw[<- hk.out,HL.out];omega)
    have hne: (d !=0) =true:=by simp[bX]
    have hR1:R=j:=by rw[hR.out,<- hk.out,if_pos hlt]
    clear hR hd bX;subst hR1;go_wp2_with fail;refine(uB d w).mono ?_;rintro e w1 ⟨rfl,rfl⟩;rw[hne];go_wp2_with fail;go_ret;exact⟨rfl,rfl⟩
  ·have hj:j=n:=by have:=HJ.out;omega
   have hR1:R= -1:=by rw[hR.out,<- hk.out,if_neg (by have:=HJ.out;omega)]
   clear hR;subst hR1;subst hj;go_wp2_with fail;go_ret;exact⟨rfl,rfl⟩
theorem sf {zs:List Int} :ee zs↔¬qu zs<zs.length:=by
 constructor
 ·intro h hl;exact xS hl (pe.1 h _ hl)
 ·intro h;exact pe.2 fun x hx=>rq (by have:=sQ zs;omega)
theorem kX (a:Option Addr)(n c:Nat)(zs:List Int)(w:World)(hb:eH .u8 w a zs)(hl:zs.length=n)(hn:n<=9223372036854775807)(b:Bool)(hbz:b=true↔ee zs) :
 Calls Tryz.prog 62 #[.slice a n c] w fun e w'=>e= .returned (.bool b)/\w=w':=by
 have IX:=aa (yh a n c zs w hb hl hn);by_cases h:qu zs<n
 ·obtain rfl:b=false:=by
   cases b with
   |false=>rfl
   |true=>exact absurd (by rw[hl];exact h) (sf.1 (hbz.1 rfl))
  rw[if_pos h]at IX;obtain⟨k,hk⟩:=named (qu zs);rw[<- hk.out]at IX h;have h0: (0:Int)<=k:=by omega
  have hd:decide ((k:Int)≥0) =true:=by simp
  clear hb hl hn hbz hk h;go_enter Tryz.func62,Tryz.ntmps62;go_wp2_with fail;go_enter Tryz.func104,Tryz.ntmps104;go_wp2_with fail;refine IX.out.mono ?_;rintro e w1 ⟨rfl,rfl⟩;go_wp2_with fail;go_ret;go_wp2_with fail
 ·obtain rfl:b=true:=hbz.2 (sf.2 (by rw[hl];exact h));rw[if_neg h]at IX;clear hb hl hn hbz h;go_enter Tryz.func62,Tryz.ntmps62;go_wp2_with fail;go_enter Tryz.func104,Tryz.ntmps104;go_wp2_with fail;refine IX.out.mono ?_;rintro e w1 ⟨rfl,rfl⟩;go_wp2_with fail;go_ret;go_wp2_with fail
end fQ
namespace Arc
open Go.RowKit Go.Proofs.YtcjagakckffkiaaGreatDoor.Fit Pnm Tre Flt fQ Reb
theorem vH {lo hi q:Nat}{Z:List Int}{E:Int}{o:Nat}(w:World)(h:lD w lo hi q Z E o 0)(hE:E=11\/E=4) :
 Calls Tryz.prog 38 #[.pointer (some ⟨q,0,none⟩)] w fun e w'=>∃x:Int,e= .returned (.tuple #[.int .i64 ((vZ Z E [] o).p:Int),.int .i64 x])/\ (vZ Z E [] o).e= (if x=4 then 5 else x)/\ (∃o' s',lD w' lo hi q Z E o' s')/\Out lo hi w w':=by
 obtain⟨R,hR⟩:=named (vZ Z E [] o);rw[<- hR.out];have H:=aa h;have EE:=aa hE;have ZL:=aa h.bd.1;have NX:=aa (gH w h hE);obtain⟨V,hV⟩:=named (jF Z E o 0);obtain⟨O,hO⟩:=named (rp Z o 0);clear h hE;go_enter Tryz.func38,Tryz.ntmps38;go_wp2_with fail;refine NX.out.mono ?_;rintro e w2 ⟨b2,c2,rfl,l2,i2,x2,r2,u2⟩;rw[<- hV.out,<- hO.out]at r2;rw[<- hV.out];have R2:=aa r2;have U2:=aa u2;have I2:=aa i2;have L2:=aa l2;clear l2 i2 x2 r2 u2 NX;by_cases h0:V=0
 ·subst h0;have hg5:=Gw EE.out hV.out.symm;obtain⟨g1,_,g3⟩:=uu (E:=E) hg5;obtain⟨B,hB⟩:=named ((Z.drop o).take 512);rw[<- hB.out]at g1;have OE:Hid (O=o+512) :=by show _=_;rw[hO.out,g3]
  have BL:Hid (B.length=512) :=by show _=_;rw[hB.out,List.length_take,List.length_drop];omega
  have I2':Hid (eH .u8 w2 b2 B) :=by show eH _ _ _ _;rw[<- g1];exact I2.out
  have hv0:=hV.out.symm;have RE0:Hid (R=vZ Z E [] o) :=by show _=_;exact hR.out
  have RE1:Hid (¬ee B->R=⟨[],o,18⟩) :=by show _->_;intro z;rw[RE0.out,Dz hv0 (by rw[<- hB.out];exact z)]
  have RE2:Hid (ee B->R=if jF Z E O 0=4 then⟨canon (bI []),O,0⟩else if jF Z E O 0=11 then⟨[],rp Z O 0,11⟩else⟨[],O,18⟩) :=by show _->_;intro z;rw[RE0.out,EG hv0 (by rw[<- hB.out];exact z),OE.out]
  have OB: (O:Int)<=140737488355328:=by have h1:=R2.out.size.2.2.2;have h2:=ZL.out;omega
  have OM:IntKind.i64.wrap ((O:Int) - 512) = (o:Int) :=by
   have e:=OE.out;have: (O:Int) - 512= (o:Int) :=by omega
   rw[this];exact zC (by omega) (by omega)
  clear hv0 RE0 hg5;rw[g1,BL.out];clear g1 g3 I2 L2
  obtain⟨zb,hzb⟩:∃zb:Bool,zb=true↔ee B:=by
   by_cases hz:ee B
   ·exact⟨true,by simp[hz]⟩
   ·exact⟨false,by simp[hz]⟩
  have HZB:=aa hzb;go_wp2_with fail;refine(lL w2 R2.out).mono ?_;rintro e w3 ⟨rfl,rfl⟩;go_wp2_with fail;refine(kX b2 512 c2 B w2 I2'.out BL.out (by decide) zb hzb).mono ?_;rintro e w3 ⟨rfl,rfl⟩;clear hzb
  cases zb with
  |false=>
   have RE:Hid (R=⟨[],o,18⟩) :=aa (RE1.out (fun c=>by cases HZB.out.mpr c));go_wp2_with fail;go_ret2;rw[RE.out];exact⟨18,rfl,rfl,⟨_,_,R2.out⟩,U2.out⟩
  |true=>
   have RE1:=aa (RE2.out (HZB.out.mp rfl));have NX:=aa (gH w2 R2.out EE.out);obtain⟨V2,hV2⟩:=named (jF Z E O 0);obtain⟨O2,hO2⟩:=named (rp Z O 0);rw[<- hV2.out,<- hO2.out]at RE1;clear RE2 HZB;go_wp2_with fail;refine NX.out.mono ?_;rintro e w4 ⟨b4,c4,rfl,l4,i4,x4,r4,u4⟩;rw[<- hV2.out,<- hO2.out]at r4;rw[<- hV2.out];have R4:=aa r4;have U4:=aa (U2.out.trans u4);clear l4 i4 x4 r4 u4 NX;by_cases h4:V2=4
   ·subst h4;have RE:Hid (R=⟨canon (bI []),O,0⟩) :=by show _=_;rw[RE1.out,if_pos rfl]
    go_wp2_with fail;go_ret2;rw[RE.out];exact⟨0,rfl,rfl,⟨_,_,R4.out⟩,U4.out⟩
   ·have n4: (V2==4) =false:=by simpa using h4
    by_cases h11:V2=11
    ·subst h11;have RE:Hid (R=⟨[],O2,11⟩) :=by show _=_;rw[RE1.out,if_neg h4,if_pos rfl]
     go_wp2_with fail;refine(lL w4 R4.out).mono ?_;rintro e w5 ⟨rfl,rfl⟩;go_wp2_with fail;go_ret2;rw[RE.out];exact⟨11,rfl,rfl,⟨_,_,R4.out⟩,U4.out⟩
    ·have n11: (V2==11) =false:=by simpa using h11
     have RE:Hid (R=⟨[],O,18⟩) :=by show _=_;rw[RE1.out,if_neg h4,if_neg h11]
     go_wp2_with fail;go_ret2;rw[RE.out];exact⟨18,rfl,rfl,⟨_,_,R4.out⟩,U4.out⟩
 ·have n0: (V !=0) =true:=by simpa using h0
  have RE:Hid (R=⟨[],O,if V=4 then 5 else V⟩) :=by show _=_;rw[hR.out];unfold vZ;rw[if_pos (by rw[<- hV.out];exact h0),<- hV.out,<- hO.out]
  clear h0;go_wp2_with fail;refine(lL w2 R2.out).mono ?_;rintro e w5 ⟨rfl,rfl⟩;go_wp2_with fail;go_ret2;rw[RE.out];exact⟨V,rfl,rfl,⟨_,_,R2.out⟩,U2.out⟩
end Arc
section
open Go.RowKit Go.Proofs.YtcjagakckffkiaaGreatDoor.Fit Pxr Pnm fQ
theorem fQ.vp (n:Nat) :qJ (-1) n=n:=by unfold qJ;rw[if_neg (by omega)]
theorem fQ.vo (n:Nat) :mg (-1) n=4:=by unfold mg;rw[if_neg (by omega)]
end
namespace Arc
open Go.Lib Go.RowKit Go.Proofs.YtcjagakckffkiaaGreatDoor.Fit Pxr Pnm Tre Flt fQ Reb
theorem sS {lo hi q:Nat}{Z:List Int}{E:Int}{o:Nat}(w:World)(h:lD w lo hi q Z E o 0)(hEE:E=11\/E=4)(hg5:o+512<=Z.length)(hz:ee ((Z.drop o).take 512)) :
 Calls Tryz.prog 32 #[.pointer (some ⟨q,0,none⟩)] w fun e w'=>e= .returned (.tuple #[.agg (cB 0 emp 0 emp 0).toArray,.int .i64 (o:Int),.int .i64 18])/\lD w' lo hi q Z E (o+512) 0/\Out lo hi w w':=by
 have EO:=aa CS;have EZ:=aa ER;have H:=aa h;have HS:=aa h.size;have HEE:=aa hEE;obtain⟨g1,g2,g3⟩:=uu (E:=E) hg5;obtain⟨B,hB⟩:=named ((Z.drop o).take 512);rw[<- hB.out]at g1 hz;have HZ:=aa hz;have BL:Hid (B.length=512) :=by show _=_;rw[hB.out,List.length_take,List.length_drop];omega
 clear h hEE hz hg5;go_enter Tryz.func32,Tryz.ntmps32;go_wp2_with (first| (refine ag rfl 68 rfl (cB 0 emp 0 emp 0) EZ.out ?_;intro w1 h1 b1;have G1:=aa h1;have B1:=aa b1;clear h1 b1));have R1:=aa (H.out.below B1.out);have U1:Hid (Out lo hi w w1) :=Out.aW B1.out aj;refine(gH w1 R1.out HEE.out).mono ?_;rintro e w2 ⟨b2,c2,rfl,_,i2,_,r2,u2⟩;rw[g2,g3]at r2;rw[g1]at i2;rw[g1,g2,BL.out];have R2:=aa r2;have U2:=aa (U1.out.trans u2);have G2:=aa (G1.out.out u2 (.inr HS.out.1));have I2:=aa i2;clear i2 r2 u2 g1 g2 g3;go_wp2_with fail;refine(xE w2 R2.out o rfl).mono ?_;rintro e w3 ⟨rfl,rfl⟩;go_wp2_with fail;refine(kX b2 512 c2 B w2 I2.out BL.out (by decide) true ⟨fun _=>HZ.out,fun _=>rfl⟩).mono ?_;rintro e w3 ⟨rfl,rfl⟩;go_wp2_with (first| (refine ae rfl 68 _ _ rfl w.heap.size rfl (cB 0 emp 0 emp 0) (cB 0 emp 0 emp 0) rfl 68 G2.out EO.out.2 rfl (fR _ _ _ _ _) ?_;intro wy gy ty;have GY:=aa gy;have TY:=aa ty;clear gy ty));exact bodyPost_ret (Go.Proofs.YtcjagakckffkiaaGreatDoor.Fit.az Tryz.results32 EO.out _ w.heap.size rfl _ (cB 0 emp 0 emp 0) GY.out rfl) rfl ⟨rfl,R2.out.out (Out.bH TY.out aj (Nat.lt_succ_self _)) (.inl HS.out.1),U2.out.late TY.out aj⟩
theorem yo {lo hi q g:Nat}{Z:List Int}{E:Int}{o:Nat}(w:World)(h:lD w lo hi q Z E o 0)(hEE:E=11\/E=4)(hg5:o+512<=Z.length)(hz:ee ((Z.drop o).take 512)) :
 Calls Tryz.prog 75 #[.pointer (some ⟨q,0,none⟩),.pointer (some ⟨g,0,none⟩)] w fun e w'=>e= .returned (.tuple #[.int .i64 (o:Int),.int .i64 18])/\lD w' lo hi q Z E (o+512) 0/\Out lo hi w w':=by
 have EO:=aa CS;have EZ:=aa ER;have HD:=aa (sS w h hEE hg5 hz);clear h hEE hz hg5;go_enter Tryz.func75,Tryz.ntmps75;go_wp2_with fail;refine HD.out.mono ?_;rintro e w3 ⟨rfl,r3,u3⟩;have R3:=aa r3;have U3:=aa u3;clear r3 u3;go_wp2_with (first| (refine ag rfl 68 rfl (cB 0 emp 0 emp 0) EZ.out ?_;intro w4 ga ba;have G4:=aa ga;have B4:=aa ba;clear ga ba) | (refine ae rfl 68 _ _ rfl w3.heap.size rfl (cB 0 emp 0 emp 0) (cB 0 emp 0 emp 0) rfl 68 G4.out EO.out.2 rfl (fR _ _ _ _ _) ?_;intro w5 gb tb;have B5:=aa (B4.out.trans (tb.below aj));clear gb tb));go_ret2;exact⟨rfl,R3.out.below B5.out,U3.out.sN B5.out U3.out.size⟩
theorem yr {lo hi q g:Nat}{Z:List Int}{E:Int}{o:Nat}(w:World)(h:lD w lo hi q Z E o 0)(hEE:E=11\/E=4)(hg5:o+512<=Z.length)(hz:ee ((Z.drop o).take 512)) :
 Calls Tryz.prog 37 #[.pointer (some ⟨q,0,none⟩),.pointer (some ⟨g,0,none⟩)] w fun e w'=>e= .returned (.tuple #[.int .i64 (o:Int),.int .i64 18])/\lD w' lo hi q Z E (o+512) 0/\Out lo hi w w':=by
 have HD:=aa (yo (g:=g) w h hEE hg5 hz);clear h hEE hz hg5;go_enter Tryz.func37,Tryz.ntmps37;go_wp2_with fail;go_loopw [6] (fun _ wr=>Hid (wr=w)) (fun _ _=>0)
 case atStart=>exact rfl
 case round=>
  obtain rfl:wr=w:=hrel;go_wp2_with fail;refine HD.out.mono ?_;rintro e w2 ⟨rfl,r2,u2⟩;have R2:=aa r2;have U2:=aa u2;clear r2 u2;go_wp2_with fail;go_ret2;exact⟨rfl,R2.out,U2.out⟩
theorem zv:vZ (ao 1025) 4 [] 512=⟨[],1024,18⟩:=by
 have hz:∀a b,ee (((ao 1025).drop a).take b) :=fun a b z hz=>nM 1025 z (List.mem_of_mem_drop (List.mem_of_mem_take hz));have hl: (ao 1025).length=1025:=aB _;have n1:= (uu (E:=4) (o:=512) (Z:=ao 1025) (by rw[hl];decide)).2.1;have n2:= (pQ (E:=4) (o:=1024) (Z:=ao 1025) (by rw[hl];decide)).2.1;rw[if_pos ⟨rfl,by rw[hl];decide⟩]at n2;unfold vZ;rw[if_neg (by rw[n1];decide),if_neg (fun c=>c (hz _ _)),if_neg (by rw[n2];decide),if_neg (by rw[n2];decide)]
theorem vG (a:Option Addr)(w:World)(Z:List Int)(hZ:Z=ao 1025)(hb:BytesIn w a Z) :
 Calls Tryz.prog 21 #[.slice a 1025 1025] w fun e w'=>uO ⟨[],1024,18⟩ e w'/\Below w.heap.size w w':=by
 have hl:Z.length=1025:=by rw[hZ,aB]
 have hz:ee ((Z.drop 0).take 512) :=fun z hz=>nM 1025 z (by rw[<- hZ];exact List.mem_of_mem_drop (List.mem_of_mem_take hz));have TR:Hid (vZ Z 4 [] 512=⟨[],1024,18⟩) :=by show _=_;rw[hZ];exact zv
 have SN:=aa (pM a 1025 1025 Z none 0 0 [] (-1) w hb hl aj (by decide) (.inl rfl) rfl (by decide));have HL:=aa hl;have HZZ:=aa hz;clear hb hl hz hZ;go_enter Tryz.func21,Tryz.ntmps21;go_wp2_with fail;refine SN.out.mono ?_;rintro e w1 ⟨m,rfl,r1,b1⟩;rw[vp,vo,List.take_of_length_le (by rw[HL.out];exact aj)]at r1;have B1:=aa b1
 have RD:Hid (Calls Tryz.prog 16 #[.pointer (some ⟨m,0,none⟩)] w1 fun e w'=>uO ⟨[],1024,18⟩ e w'/\Below w.heap.size w1 w') :=by
  have RN:=aa (Bl w1 r1);have LW:Hid (w.heap.size<=w1.heap.size) :=b1.size;clear SN r1 b1 B1;go_enter Tryz.func16,Tryz.ntmps16;go_wp2_with fail;refine RN.out.mono ?_;rintro e w2 ⟨q,rfl,r2,b2⟩;obtain⟨hi,hhi⟩:=named w2.heap.size;rw[<- hhi.out]at r2;have R2:=aa r2;have B2:=aa (b2.mono LW.out);clear r2 b2 RN;go_wp2_with fail;refine(Reb.pM w2).mono ?_;rintro e w3 ⟨S0,g,rfl,_,_,b3⟩;have R3:=aa (R2.out.below b3);have B3:=aa (B2.out.trans (b3.mono (Nat.le_trans LW.out (by have:=R2.out.size;have:=B2.out.size;omega))));clear b3 R2 B2;go_wp2_with fail;refine(yr w3 R3.out (.inr rfl) (by rw[HL.out];decide) HZZ.out).mono ?_;rintro e w4 ⟨rfl,r4,u4⟩;have RS:=aa (vH w4 r4 (.inr rfl));have B4:=aa (B3.out.trans (u4.below aj (by have:=R3.out.size;have:=B3.out.size;have:=LW.out;omega)));have LQ:Hid (w.heap.size<=w4.heap.size) :=Nat.le_trans LW.out B4.out.size;rw[Nat.zero_add,TR.out]at RS;clear r4 u4 R3 B3;go_wp2_with fail;refine RS.out.mono ?_;rintro e w5 ⟨x,rfl,hx,_,u5⟩;have B5:=aa (B4.out.trans (u5.below aj LQ.out))
  obtain rfl:x=18:=by
   have h: (18:Int) =if x=4 then 5 else x:=hx;by_cases h4:x=4
   ·rw[if_pos h4]at h;cases h
   ·rw[if_neg h4]at h;exact h.symm
  clear hx u5 RS;go_wp2_with fail;go_ret3;exact⟨uO.bad _ _,B5.out⟩
 clear r1 b1 SN;go_wp2_with fail;refine RD.out.mono ?_;rintro e w2 ⟨⟨a2,n2,c2,ys,rfl,ha,hz⟩,b2⟩;have HA:=aa ha;have HZ:=aa hz;have B2:=aa (B1.out.trans b2);clear ha hz b2;go_wp2_with fail;go_ret3;exact⟨⟨a2,n2,c2,ys,rfl,HA.out,HZ.out⟩,B2.out⟩
theorem mc {B0:Nat} :wE B0:=fun a n cap ys w ha hn hL V=>ye a n cap ys w ha hn hL V
theorem lY {B0:Nat} :tw B0:=fun a w hb _=>vG a w _ rfl hb
end Arc
section
open Go.Lib Go.RowKit Go.Proofs.YtcjagakckffkiaaGreatDoor.Fit Pxr Pnm Tre Flt fQ Reb Arc
theorem dP (a:Option Addr)(n cap:Nat)(ys:List aP)(w:World)(V:ot w)(ha:bA w a n cap ys) :
 Calls Tryz.prog 3 #[.slice a n cap] w fun e w'=>e= .returned (.bool true)/\Below w.heap.size w w':=
 Ea mc lY a n cap ys w (MV.of V) ha
end
end Go.Proofs.YtcjagakckffkiaaGreatDoor
