import Derived.Test.YtcjagakckffkiaaGreatDoorQ35
import Derived.Test.YtcjagakckffkiaaGreatDoorQ1
import Derived.Test.YtcjagakckffkiaaGreatDoorQ34
import Derived.Test.YtcjagakckffkiaaGreatDoorQ36
import Derived.Test.YtcjagakckffkiaaGreatDoorQ37
import Derived.Test.YtcjagakckffkiaaGreatDoorQ23
import Derived.Test.YtcjagakckffkiaaGreatDoorQ15
set_option maxHeartbeats 16000000
namespace Go.Proofs.YtcjagakckffkiaaGreatDoor.Arc
open Go.Lib Go.RowKit Go.Proofs.YtcjagakckffkiaaGreatDoor.Fit Pnm Tre Flt dO Reb
theorem NN {l:List Nd}{x:Mb}(hx:x∈iF l) :dn x.e=0:=by
 by_cases h: (dA l).2=0
 ·have hc:=oj (rL.mp h);unfold iF at hx;rw[if_pos h]at hx;obtain⟨i,hi,rfl⟩:=List.getElem_of_mem hx;have hi':i< (canon l).length:=by rwa [dv]at hi
  have:=gp hi';rw[List.getElem?_eq_getElem hi]at this;rw[Option.some.inj this];exact hc.ck hi'
 ·unfold iF at hx;rw[if_neg h]at hx
  cases hx
theorem Pt {l:List Nd}{x:Mb}(hx:x∈iF l) :x.d= []\/∃y∈l,x.d=y.d:=by
 by_cases h: (dA l).2=0
 ·unfold iF at hx;rw[if_pos h]at hx;obtain⟨i,hi,rfl⟩:=List.getElem_of_mem hx;have hi':i< (canon l).length:=by rwa [dv]at hi
  have hm:=gp hi';rw[List.getElem?_eq_getElem hi]at hm;rw[Option.some.inj hm]
  cases hf:fr (canon l) i (nd (canon l) i).c with
  |some y=>rw[dU hf];exact .inl rfl
  |none=>
   rw[dV hf];refine .inr ?_
   have hn:nd (canon l) i∈canon l:=by
    have:nd (canon l) i= (canon l)[i] :=by unfold nd;rw[List.getElem?_eq_getElem hi'];rfl
    rw[this];exact List.getElem_mem hi'
   obtain⟨z,hz,he⟩:=List.mem_map.mp (show nd (canon l) i∈(fw l).map (mu (fw l))from hn);refine⟨z,(nf l).mem_iff.mp hz,?_⟩;show(nd (canon l) i).d=z.d;rw[<- he];rfl
 ·unfold iF at hx;rw[if_neg h]at hx
  cases hx
theorem uu (l:List Nd) : (iF l).length<=l.length:=by
 by_cases h: (dA l).2=0
 ·unfold iF;rw[if_pos h,dv,eZ];exact ah
 ·unfold iF;rw[if_neg h];exact Nat.zero_le _
theorem Ps {x:Mb}(h:dn x.e=0)(hd:x.d.length<=70000) : (kR x).length<=400000:=by
 obtain⟨h1,h2⟩:=kL h;have h3:=lW h;have h4:=uE (bL.dR (gI x.e)).length;have h5:=dZ x.d.length;have h6:=uE x.d.length;rw[gO]
 split at h2<;>omega
theorem Fp:∀{A:List Mb},(∀x∈A,dn x.e=0/\x.d.length<=70000)-> (cq A).length<=A.length*400000
 | [],_=>Nat.zero_le _
 |x::A,h=>by
  have h1:=Ps (h x List.mem_cons_self).1 (h x List.mem_cons_self).2;have h2:=Fp fun y hy=>h y (List.mem_cons_of_mem x hy);have e:cq (x::A) =kR x++cq A:=by unfold cq;rw[List.flatMap_cons]
  rw[e,List.length_append,List.length_cons,Nat.succ_mul];omega
theorem Dq {l:List Nd}(hn:l.length<=40)(hd:∀y∈l,y.d.length<=70000) : (cq (iF l)).length<=16000000:=by
 have h1:=Fp (A:=iF l) fun x hx=>⟨NN hx,by
  rcases Pt hx with h|⟨y,hy,h⟩
  ·rw[h];exact Nat.zero_le _
  ·rw[h];exact hd y hy⟩
 have h2:=uu l;have h3: (iF l).length*400000<=40*400000:=Nat.mul_le_mul_right _ (Nat.le_trans h2 hn);omega
end Go.Proofs.YtcjagakckffkiaaGreatDoor.Arc
namespace Go.Proofs.YtcjagakckffkiaaGreatDoor.Arc
open Go.Lib Go.RowKit Go.Proofs.YtcjagakckffkiaaGreatDoor.Fit bL Pnm Tre Flt dO Reb
theorem Lx {l:List Nd}(h: (dA l).2=0) :Gd (iF l) :=by
 have hc:=oj (rL.mp h);unfold iF;rw[if_pos h];exact vA hc
theorem Aa (l:List Nd) : (dA l).2≠0->nM l= [] :=fun h=>by unfold nM;rw[if_neg h]
theorem vF (l:List Nd) : (dA l).2=0->nM l=cy (iF l)/\Gd (iF l) :=fun h=>⟨by unfold nM;rw[if_pos h],Lx h⟩
theorem qe {ys:List aL}{n:Nat}(HN:ys.length=n)(hn:n<=40)(hy:∀u∈ys,u.n.p.size<=70000/\u.n.t.size<=70000/\u.n.d.length<=70000) : (cq (iF (aI ys))).length<=70000000/\n<=40/\ (iF (aI ys)).length<=40:=
 ⟨Nat.le_trans (Dq (l:=aI ys) (by rw[bg,HN];exact hn) (fun y h=>by
  unfold aI at h;obtain⟨u,hu,rfl⟩:=List.mem_map.mp h;exact(hy u hu).2.2)) (by decide),hn,Nat.le_trans (uu _) (by rw[bg,HN];exact hn)⟩
end Go.Proofs.YtcjagakckffkiaaGreatDoor.Arc
namespace Go.Proofs.YtcjagakckffkiaaGreatDoor
open Go.RowKit
theorem uQ (ca:Option Addr)(cl cc:Nat)(cs:List Int)(F:Int)(w:World)(hi:eJ .i64 w ca cs)(hcl:cs.length=cl)(hc:cl<=1000) :
 Calls Tryz.prog 23 #[.agg #[.slice ca cl cc,.int .i64 F]] w fun e w'=>∃m,e= .returned (.pointer (some ⟨m,0,none⟩))/\
  iz w' (fun k=>w.heap.size<=k/\k<w'.heap.size) m [] F cs 0/\Below w.heap.size w w':=by
 have HI:=ad hi;have HCL:=ad hcl;have HC:=ad hc;clear hi hcl hc;go_enter Tryz.func23,Tryz.ntmps23;go_wp2_with (refine aj rfl 34 _ rfl [.slice ca cl cc,.int .i64 F] rfl ?_;intro w1 h1 b1;have H1:=ad h1;have B1:=ad b1;have c0:=h1.get 0 rfl;have c1:=h1.get 1 rfl;clear h1 b1);refine(uv ca cl cc cs w1 (HI.out.below B1.out) HCL.out (by have:=HC.out;omega)).mono ?_;rintro e w2 ⟨v2,rfl,o2,b2⟩;obtain⟨sa,sc,rfl,i2,_,_,_,x2⟩:=bl o2;have H2:=ad (H1.out.below b2 H1.out.lt);have g0:=H2.out.get 0 rfl;have g1:=H2.out.get 1 rfl;have f0:=H2.out.frozen 0;have B2:=ad b2;have I2:=ad i2;have X2:=ad x2;clear o2 b2 i2 x2 c0 c1;have Z1:=B1.out.size;have Z2:=B2.out.size;have L1:=H1.out.lt;go_wp2_with (first| (refine aj rfl 110 _ rfl [.slice sa cl sc,.int .i64 F,.slice none 0 0,.int .i64 0] rfl ?_;intro w6 h6 b6;have H6:=ad h6;have B6:=ad b6;clear h6 b6));go_ret;obtain⟨ws,hs⟩:=named (w2.setCell ⟨w.heap.size,0,none⟩ (.slice sa cl sc));have hz:ws.heap.size=w2.heap.size:=by rw[hs.out];simp[World.setCell]
 have BS:Below w.heap.size w2 ws:=by rw[hs.out];exact(Below.refl w.heap.size w2).setCell (p:=⟨w.heap.size,0,none⟩) ah _
 have IS:eJ .i64 ws sa cs:=by rw[hs.out];exact I2.out.set _ fun x hx=>by have:= (X2.out x hx).1;omega
 have h6:=H6.out;have b6:=B6.out;rw[<- hs.out,hz]at h6;rw[<- hs.out]at b6;have l6:=h6.lt;refine⟨w2.heap.size,rfl,⟨none,0,sa,sc,by rw[HCL.out];exact h6,⟨rfl,.inl ⟨rfl,rfl⟩⟩,fun z hz=> (by simp at hz),IS.below b6,by rw[HCL.out];exact HC.out,by simp,?_,fun k hk=>hk.2,fun x hx=> (by cases hx),fun x hx=>?_,Nat.zero_le _,fun h=>by simpa using h⟩,((B1.out.trans (B2.out.mono Z1)).trans BS).trans (b6.mono (by omega))⟩
 ·exact⟨by omega,l6⟩
 ·have:=X2.out x hx;exact⟨⟨by omega,by omega⟩,by omega,fun y hy=>by cases hy⟩
end Go.Proofs.YtcjagakckffkiaaGreatDoor
namespace Go.Proofs.YtcjagakckffkiaaGreatDoor.Arc
open Go.Lib Go.RowKit Go.Proofs.YtcjagakckffkiaaGreatDoor.Fit bL Pnm Tre Flt dO Reb
noncomputable def Pe (F:Int)(l:List Nd) :Int:=if(dA l).2≠0 then(dA l).2 else Is F (nM l)
theorem Ng (F:Int) :Ik F [] = [] :=by unfold Ik;split<;>simp
set_option maxRecDepth 100000 in
theorem At {S:Nat->Prop}{m B0:Nat}{F:Int}{cs:List Int}(a:Option Addr)(n cap:Nat)(ys:List aL)(w:World)(ha:br w a n cap ys)(hn:n<=1000)(hL: (cq (iF (aI ys))).length<=70000000)(V:FV B0 w)(h:iz w S m [] F cs 0)(hF:F<=9223372036854775807)(hB:∀k,S k->B0<=k) :
 Calls Tryz.prog 24 #[.slice a n cap,.pointer (some ⟨m,0,none⟩)] w fun e w'=>e= .returned (.int .i64 (Pe F (aI ys)))/\
  (∃S' cs' r,iz w' S' m (Ik F (nM (aI ys))) F cs' r/\∀k,S' k->Grow S w w' k)/\aA S w w':=by
 have HH:=ad h;have HV:=ad V;have HL:=ad hL;have HF:=ad hF;have HB:=ad hB;have PM:=ad (sr a n cap ys w V.v ha hn);have ZB:=ad (Aa (aI ys));have ZO:=ad (vF (aI ys));obtain⟨Z,hZ⟩:=named (nM (aI ys));obtain⟨R,hR⟩:=named (Pe F (aI ys));have RX:Hid (R=if(dA (aI ys)).2≠0 then(dA (aI ys)).2 else Is F Z) :=by show _=_;rw[hR.out,hZ.out];rfl
 rw[<- hZ.out]at ZB ZO;rw[<- hZ.out,<- hR.out];clear ha hn hL V h hF hB hZ hR;go_enter Tryz.func24,Tryz.ntmps24;go_wp2_with fail;refine PM.out.mono ?_;rintro e w1 ⟨b,k,c,us,X1,X2,rfl,_,h2,hu,hm,b1,hb,hd⟩;have HU:=ad hu;have HM:=ad hm;have B1:=ad b1;have H2:=ad h2;have FB:=ad hb;have FD:=ad hd;rw[<- h2]at RX ZB ZO;clear hu hm b1 h2 hb hd PM;by_cases hx:¬X2=0
 ·have nx: (X2 !=0) =true:=by simpa using hx
  have RE:Hid (R=X2) :=by show _=_;rw[RX.out,if_pos hx]
  have ZE:Hid (Z= []) :=ZB.out hx;clear hx RX ZB ZO;go_wp2_with fail;go_ret;rw[RE.out,ZE.out,Ng];obtain⟨k1,k2⟩:=HH.out.stay B1.out;exact⟨rfl,⟨_,_,_,k1,fun k h=>h⟩,k2⟩
 obtain rfl:X2=0:=Decidable.not_not.mp hx;have RE:Hid (R=Is F Z) :=by show _=_;rw[RX.out,if_neg hx]
 obtain⟨zz,GA⟩:=ZO.out rfl;have OKA:=ad (Gd.Pf GA);have ZZ:=ad zz;clear hx RX ZB ZO zz GA;go_wp2_with fail;refine(Lg w1 (HH.out.below B1.out)).mono ?_;rintro e w2 ⟨q,rfl,k2,b2⟩;have K2:=ad k2;have B2:=ad b2;have V2:=ad ((HV.out.go B1.out).go b2);have HS:=HH.out.lt
 have PW:=ad (Dw (B0:=B0) b k c us _ w2 k2 V2.out (fun k hk=>hk.elim (HB.out k) fun h=>by have:=HV.out.s;have:=B1.out.size;omega) (HU.out.below b2) HM.out OKA.out HL.out HF.out (fun hne x hx c=>by
  have h1:=FB.out x hx;rcases HU.out.r with h|⟨b',off,hb',hlt,_⟩
  ·exact hne h
  ·rw[hx]at hb';injection hb' with hb';rw[hb']at c h1;rcases c with c|c
   ·have:=HS _ c;have h2:w.heap.size<=b':=h1;have h3:b'<w.heap.size:=this;omega
   ·have h2:w1.heap.size<=b':=c.1;omega) (fun u hu hne x hx c=>by
  have h1:=FD.out u hu x hx;obtain⟨b',off,hb',hlt⟩:= ((HU.out.s u hu).d.Bu).plain (by have:u.n.d.length≠0:=fun e=>hne (List.length_eq_zero_iff.mp e);omega);rw[hx]at hb';injection hb' with hb';rw[hb']at c h1;rcases c with c|c
  ·have:=HS _ c;have h2:w.heap.size<=b':=h1;have h3:b'<w.heap.size:=this;omega
  ·have h2:w1.heap.size<=b':=c.1;omega))
 rw[<- ZZ.out]at PW;clear k2 b2 HS;go_wp2_with fail;refine PW.out.mono ?_;rintro e w3 ⟨rfl,⟨S',cs',r,k3,s3⟩,o3⟩;have K3:=ad k3;have S3:=ad s3;have O3:=ad o3;clear k3 s3 o3 PW;go_wp2_with fail;go_ret;rw[RE.out]
 exact⟨rfl,⟨S',cs',r,K3.out,fun k hk=>by
  rcases S3.out k hk with h|h
  ·exact h.imp id fun h=>⟨Nat.le_trans B1.out.size h.1,Nat.lt_of_lt_of_le h.2 O3.out.size⟩
  ·exact .inr ⟨Nat.le_trans (Nat.le_trans B1.out.size B2.out.size) h,K3.out.lt k hk⟩⟩,ll (aA.aq (ar B1.out B2.out) ah) O3.out fun k hk=>hk.imp id fun h=>Nat.le_trans B1.out.size h.1⟩
set_option maxRecDepth 100000 in
theorem Gk {B0:Nat}(a:Option Addr)(n cap:Nat)(ys:List aL)(w:World)(ha:br w a n cap ys)(hn:n<=1000)(hL: (cq (iF (aI ys))).length<=70000000)(V:MV B0 w) :
 Calls Tryz.prog 14 #[.slice a n cap] w (kg (nM (aI ys)) (dA (aI ys)).2 w) :=by
 have HA:=ad ha;have HV:=ad V;have HL:=ad hL;have HN:=ad hn
 have e1:Pe (-1) (aI ys) = (dA (aI ys)).2:=by
  unfold Pe;by_cases h: (dA (aI ys)).2≠0
  ·rw[if_pos h]
  ·rw[if_neg h,(qj _).1];exact(Decidable.not_not.mp h).symm
 have e2:= (qj (nM (aI ys))).2
 have HC:Hid (∀w1 S m cs,Below w.heap.size w w1->iz w1 S m [] (-1) cs 0-> (∀k,S k->w.heap.size<=k)->Calls Tryz.prog 24 #[.slice a n cap,.pointer (some ⟨m,0,none⟩)] w1 fun e w'=>e= .returned (.int .i64 (dA (aI ys)).2)/\ (∃S' cs' r,iz w' S' m (nM (aI ys)) (-1) cs' r)/\aA S w1 w') :=fun w1 S m cs hb hs hk=>by
  have:=At a n cap ys w1 (HA.out.below hb) HN.out HL.out (HV.out.go hb).f hs (by decide) (fun k h=>Nat.le_trans HV.out.s (hk k h));rw[e1,e2]at this;exact this.mono fun e w' ⟨h1,⟨S',cs',r,h2,_⟩,h3⟩=>⟨h1,⟨S',cs',r,h2⟩,h3⟩
 obtain⟨Z,hZ⟩:=named (nM (aI ys));obtain⟨X,hX⟩:=named (dA (aI ys)).2;rw[<- hZ.out,<- hX.out]at HC;rw[<- hZ.out,<- hX.out];clear ha V hn hL e1 e2 hZ hX;go_enter Tryz.func14,Tryz.ntmps14;go_wp2_with fail;refine(uQ none 0 0 [] (-1) w (.inl rfl) rfl (by decide)).mono ?_;rintro e w1 ⟨m,rfl,k1,b1⟩;have K1:=ad k1;have B1:=ad b1;have C1:=ad (HC.out w1 _ m [] b1 k1 fun k h=>h.1);clear k1 b1 HC;go_wp2_with fail;refine C1.out.mono ?_;rintro e w2 ⟨rfl,⟨S',cs',r,k2⟩,o2⟩;have K2:=ad k2;have B2:=ad (B1.out.trans (o2.below (fun k h=>h.1) B1.out.size));have BS:=ad (lR w2 k2);have BY:=ad k2.bytes;clear k2 o2 C1;go_wp2_with fail;refine BS.out.mono ?_;rintro e w3 ⟨v,rfl,o3,b3⟩;have O3:=ad o3;have B3:=ad (B2.out.trans (b3.mono B2.out.size));clear o3 b3;go_wp2_with fail;go_ret2;exact .own O3.out BY.out.1 B2.out.size B3.out
end Go.Proofs.YtcjagakckffkiaaGreatDoor.Arc
namespace Go.Proofs.YtcjagakckffkiaaGreatDoor.dO
open Go.RowKit Go.Proofs.YtcjagakckffkiaaGreatDoor.Fit bL Pnm
theorem fe {P:Program}{w:World}{fn:Func}{p q r s:Tmp}{T:TypeId}{n:Nat}(h:fn.results= #[.cell p T,.tmp q,.tmp r,.tmp s])(hT:ij P T n)(tmps:Array Value)(g:Nat)(hp:tmps.getD p undef= .pointer (some ⟨g,0,none⟩))
 (T':TypeId)(vs:List Value)(hg:ak w g T' vs)(hl:vs.length=n) : (results fn tmps).run P w= .ok (.tuple #[.agg vs.toArray,tmps.getD q undef,tmps.getD r undef,tmps.getD s undef]) w:=by
 have hp':tmps[p]?.getD undef= .pointer (some ⟨g,0,none⟩) :=by simpa using hp
 simp[results,h,hp',asAddr,fh hT g T' vs hg hl]
def Fu (h:Hd)(rs:List Rec)(p:Int)(e:Int)(w:World)(x:Ending)(w':World) :Prop:=
 ∃b n c,x= .returned (.tuple #[.agg (QN h).toArray,.slice b n c,.int .i64 p,.int .i64 e])/\rs.length=n/\n<=c/\c<=maxLen/\bS w' b rs/\∀x,b=some x->w.heap.size<=x.block
section
variable {lo hi q B:Nat} {Z:List Int} {E:Int} {o:Nat} {nm pf lk:ByteArray} {md sz:Int}
set_option maxRecDepth 100000 in
theorem Gn (w:World)(h:eH w lo hi q Z E (o+512) 0)(hEE:E=11\/E=4)(V:MV B w)(hB:B<=lo)(hr:tr Z E o ⟨120,nm,pf,lk,md,sz⟩≠0) :
 Calls Tryz.prog 64 #[.pointer (some ⟨q,0,none⟩),.agg (Ust.bA 120 nm pf lk md sz).toArray] w fun e w'=>Fu hz [] (AU Z E o ⟨120,nm,pf,lk,md,sz⟩:Nat) (tr Z E o ⟨120,nm,pf,lk,md,sz⟩) w e w'/\eH w' lo hi q Z E (lP Z o ⟨120,nm,pf,lk,md,sz⟩) (Et Z E o ⟨120,nm,pf,lk,md,sz⟩)/\Out lo hi w w':=by
 have HO:=ad mJ;have HZ:=ad BU;have H:=ad h;have HS:=ad h.size;have HEE:=ad hEE;have HV:=ad V;have HB:=ad hB;obtain⟨L,hL⟩:=named (tr Z E o ⟨120,nm,pf,lk,md,sz⟩);obtain⟨P,hP⟩:=named (AU Z E o ⟨120,nm,pf,lk,md,sz⟩);rw[<- hL.out]at hr;rw[<- hL.out,<- hP.out];have n0: (L !=0) =true:=by simp[hr]
 clear h hEE V hB hr;go_enter Tryz.func64,Tryz.ntmps64;go_wp2_with (first| (refine aj rfl 130 _ rfl (Ust.bA 120 nm pf lk md sz) rfl ?_;intro w1 h1 b1;have H1:=ad h1;have B1:=ad b1;clear h1 b1) | (refine ag rfl 130 rfl Ust.cr HZ.out ?_;intro w2 h2 b2;have G2:=ad h2;have B2:=ad (ar B1.out b2);have H2:=ad (H1.out.below b2 H1.out.lt);have c0:=H2.out.get 0 rfl;have c1:=H2.out.get 1 rfl;have c2:=H2.out.get 2 rfl;have c3:=H2.out.get 3 rfl;have c4:=H2.out.get 4 rfl;have c5:=H2.out.get 5 rfl;clear h2 b2));have R2:=ad (H.out.below B2.out);have U2:Hid (Out lo hi w w2) :=Out.aq B2.out ah;have V2:=ad (HV.out.go B2.out);have LG:Hid (hi<=w1.heap.size/\w.heap.size<=w1.heap.size) :=⟨Nat.le_trans HS.out.1 B1.out.size,B1.out.size⟩;refine(qJ w2 R2.out HEE.out V2.out HB.out).mono ?_;rintro e w3 ⟨⟨a3,n3,c3',rfl,l3,f3,g3,y3,x3⟩,r3,u3⟩;rw[<- hL.out,<- hP.out];have R3:=ad r3;have U3:=ad (U2.out.trans u3);have G3:=ad (G2.out.out u3 (.inr LG.out.1));clear c0 c1 c2 c3 c4 c5 l3 f3 g3 y3 x3 r3 u3;go_wp2_with (first| (refine ae rfl 130 _ _ rfl w1.heap.size rfl (Ust.bA 0 emp emp emp 0 0) Ust.cr rfl 130 G3.out HO.out.2 rfl (aY _ _ _ _ _ _) ?_;intro wy gy ty;have GY:=ad gy;have TY:=ad ty;clear gy ty));exact bodyPost_ret (fe Tryz.results64 HO.out _ w1.heap.size rfl _ (Ust.bA 0 emp emp emp 0 0) GY.out rfl) rfl ⟨⟨none,0,0,rfl,rfl,ah,Nat.zero_le _,.inl rfl,fun x hx=>by cases hx⟩,R3.out.out (Out.aD TY.out ah (Nat.lt_succ_self _)) (.inl LG.out.1),U3.out.late TY.out LG.out.2⟩
set_option maxRecDepth 100000 in
theorem Cy (w:World)(h:eH w lo hi q Z E (o+512) 0)(hEE:E=11\/E=4)(V:MV B w)(hB:B<=lo)(hr:tr Z E o ⟨120,nm,pf,lk,md,sz⟩=0)(O:Nat)(hO:O=lP Z o ⟨120,nm,pf,lk,md,sz⟩)(hl:tj Z E O≠0) :
 Calls Tryz.prog 64 #[.pointer (some ⟨q,0,none⟩),.agg (Ust.bA 120 nm pf lk md sz).toArray] w fun e w'=>Fu hz [] (Ec Z E O:Nat) (tj Z E O) w e w'/\eH w' lo hi q Z E (fu Z O 0) (bM Z E O 0)/\Out lo hi w w':=by
 have HO:=ad mJ;have HZ:=ad BU;have H:=ad h;have HS:=ad h.size;have HEE:=ad hEE;have HV:=ad V;have HB:=ad hB;have HR0:=ad hr;have HOO:=ad hO;have HR5:=ad (nG hEE hr).2.2.2.1;obtain⟨L,hL⟩:=named (tj Z E O);obtain⟨P,hP⟩:=named (Ec Z E O);rw[<- hL.out]at hl;rw[<- hL.out,<- hP.out];have n0: (L !=0) =true:=by simp[hl]
 obtain⟨PP,hPP⟩:=named (AU Z E o ⟨120,nm,pf,lk,md,sz⟩);clear h hEE V hB hr hO hl;go_enter Tryz.func64,Tryz.ntmps64;go_wp2_with (first| (refine aj rfl 130 _ rfl (Ust.bA 120 nm pf lk md sz) rfl ?_;intro w1 h1 b1;have H1:=ad h1;have B1:=ad b1;clear h1 b1) | (refine ag rfl 130 rfl Ust.cr HZ.out ?_;intro w2 h2 b2;have G2:=ad h2;have B2:=ad (ar B1.out b2);have H2:=ad (H1.out.below b2 H1.out.lt);have c0:=H2.out.get 0 rfl;have c1:=H2.out.get 1 rfl;have c2:=H2.out.get 2 rfl;have c3:=H2.out.get 3 rfl;have c4:=H2.out.get 4 rfl;have c5:=H2.out.get 5 rfl;clear h2 b2));have R2:=ad (H.out.below B2.out);have U2:Hid (Out lo hi w w2) :=Out.aq B2.out ah;have V2:=ad (HV.out.go B2.out);have LG:Hid (hi<=w1.heap.size/\w.heap.size<=w1.heap.size) :=⟨Nat.le_trans HS.out.1 B1.out.size,B1.out.size⟩;refine(qJ w2 R2.out HEE.out V2.out HB.out).mono ?_;rintro e w3 ⟨⟨a3,n3,c3',rfl,l3,f3,g3,y3,x3⟩,r3,u3⟩;rw[HR0.out,<- hPP.out];rw[HR5.out,<- HOO.out]at r3;have R3:=ad r3;have U3:=ad (U2.out.trans u3);have G3:=ad (G2.out.out u3 (.inr LG.out.1));clear c0 c1 c2 c3 c4 c5 l3 f3 g3 y3 x3 r3 u3;go_wp2_with fail;refine(sU w3 R3.out HEE.out).mono ?_;rintro e w4 ⟨rfl,r4,u4⟩;rw[<- hL.out,<- hP.out];obtain⟨LH,hLH⟩:=named (Hx Z E O);rw[<- hLH.out];obtain⟨hT,hnm,hpf,hlk,hmd,hsz⟩:=LH;have R4:=ad r4;have U4:=ad (U3.out.trans u4);have G4:=ad (G3.out.out u4 (.inr LG.out.1));clear r4 u4;go_wp2_with (first| (refine ag rfl 130 rfl Ust.cr HZ.out ?_;intro w5 g5 b5;have X5:=ad g5;have B5:=ad b5;clear g5 b5) | (refine ae rfl 130 _ _ rfl w4.heap.size rfl (Ust.bA hT hnm hpf hlk hmd hsz) Ust.cr rfl 130 X5.out HO.out.2 rfl (aY _ _ _ _ _ _) ?_;intro w6 g6 t6;have X6:=ad g6;have A6:=ad (B5.out.trans (t6.below ah));have G6:=ad (G4.out.below A6.out G4.out.lt);clear g6 t6) | (refine ae rfl 130 _ _ rfl w1.heap.size rfl (Ust.bA 0 emp emp emp 0 0) Ust.cr rfl 130 G6.out HO.out.2 rfl (aY _ _ _ _ _ _) ?_;intro wy gy ty;have GY:=ad gy;have TY:=ad ty;clear gy ty));have R6:=ad (R4.out.below A6.out);have U6:=ad (U4.out.bG A6.out U4.out.size);exact bodyPost_ret (fe Tryz.results64 HO.out _ w1.heap.size rfl _ (Ust.bA 0 emp emp emp 0 0) GY.out rfl) rfl ⟨⟨none,0,0,rfl,rfl,ah,Nat.zero_le _,.inl rfl,fun x hx=>by cases hx⟩,R6.out.out (Out.aD TY.out ah (Nat.lt_succ_self _)) (.inl LG.out.1),U6.out.late TY.out LG.out.2⟩
set_option maxRecDepth 100000 in
theorem Kl (w:World)(h:eH w lo hi q Z E (o+512) 0)(hEE:E=11\/E=4)(V:MV B w)(hB:B<=lo)(hr:tr Z E o ⟨120,nm,pf,lk,md,sz⟩=0)(O:Nat)(hO:O=lP Z o ⟨120,nm,pf,lk,md,sz⟩)(hl:tj Z E O=0) :
 Calls Tryz.prog 64 #[.pointer (some ⟨q,0,none⟩),.agg (Ust.bA 120 nm pf lk md sz).toArray] w fun e w'=>Fu (Hx Z E O) (zG Z E o ⟨120,nm,pf,lk,md,sz⟩) 0 0 w e w'/\eH w' lo hi q Z E (fu Z O 0) (bM Z E O 0)/\Out lo hi w w':=by
 have HO:=ad mJ;have HZ:=ad BU;have H:=ad h;have HS:=ad h.size;have HEE:=ad hEE;have HV:=ad V;have HB:=ad hB;have HR0:=ad hr;have HOO:=ad hO;have HR5:=ad (nG hEE hr).2.2.2.1;have HL0:=ad hl;obtain⟨P,hP⟩:=named (Ec Z E O);obtain⟨PP,hPP⟩:=named (AU Z E o ⟨120,nm,pf,lk,md,sz⟩);obtain⟨RS,hRS⟩:=named (zG Z E o ⟨120,nm,pf,lk,md,sz⟩);obtain⟨LH,hLH⟩:=named (Hx Z E O);rw[<- hRS.out,<- hLH.out];obtain⟨hT,hnm,hpf,hlk,hmd,hsz⟩:=LH;clear h hEE V hB hr hO hl;go_enter Tryz.func64,Tryz.ntmps64;go_wp2_with (first| (refine aj rfl 130 _ rfl (Ust.bA 120 nm pf lk md sz) rfl ?_;intro w1 h1 b1;have H1:=ad h1;have B1:=ad b1;clear h1 b1) | (refine ag rfl 130 rfl Ust.cr HZ.out ?_;intro w2 h2 b2;have G2:=ad h2;have B2:=ad (ar B1.out b2);have H2:=ad (H1.out.below b2 H1.out.lt);have c0:=H2.out.get 0 rfl;have c1:=H2.out.get 1 rfl;have c2:=H2.out.get 2 rfl;have c3:=H2.out.get 3 rfl;have c4:=H2.out.get 4 rfl;have c5:=H2.out.get 5 rfl;clear h2 b2));have R2:=ad (H.out.below B2.out);have U2:Hid (Out lo hi w w2) :=Out.aq B2.out ah;have V2:=ad (HV.out.go B2.out);have LG:Hid (hi<=w1.heap.size/\w.heap.size<=w1.heap.size) :=⟨Nat.le_trans HS.out.1 B1.out.size,B1.out.size⟩;refine(qJ w2 R2.out HEE.out V2.out HB.out).mono ?_;rintro e w3 ⟨⟨a3,n3,c3',rfl,l3,f3,g3,y3,x3⟩,r3,u3⟩;rw[HR0.out,<- hPP.out];rw[HR5.out,<- HOO.out]at r3;rw[<- hRS.out]at l3 y3;have R3:=ad r3;have U3:=ad (U2.out.trans u3);have G3:=ad (G2.out.out u3 (.inr LG.out.1));have HN3:=ad l3;have HF3:=ad f3;have HG3:=ad g3;have HY3:=ad y3;have HX3:Hid (∀x,a3=some x->hi<=x.block/\w.heap.size<=x.block/\w1.heap.size+1<=x.block) :=fun x hx=>⟨Nat.le_trans (Nat.le_trans HS.out.1 B2.out.size) (x3 x hx),Nat.le_trans B2.out.size (x3 x hx),Nat.le_trans G2.out.lt (x3 x hx)⟩;clear c0 c1 c2 c3 c4 c5 l3 f3 g3 y3 x3 r3 u3;go_wp2_with fail;refine(sU w3 R3.out HEE.out).mono ?_;rintro e w4 ⟨rfl,r4,u4⟩;rw[HL0.out,<- hP.out,<- hLH.out];have R4:=ad r4;have U4:=ad (U3.out.trans u4);have G4:=ad (G3.out.out u4 (.inr LG.out.1));have HY4:=ad (HY3.out.out u4 (fun x hx=> (HX3.out x hx).1));clear r4 u4;go_wp2_with (first| (refine ag rfl 130 rfl Ust.cr HZ.out ?_;intro w5 g5 b5;have X5:=ad g5;have B5:=ad b5;clear g5 b5) | (refine ae rfl 130 _ _ rfl w4.heap.size rfl (Ust.bA hT hnm hpf hlk hmd hsz) Ust.cr rfl 130 X5.out HO.out.2 rfl (aY _ _ _ _ _ _) ?_;intro w6 g6 t6;have X6:=ad g6;have A6:=ad (B5.out.trans (t6.below ah));have G6:=ad (G4.out.below A6.out G4.out.lt);clear g6 t6;have e0:=X6.out.get 0 rfl;have e1:=X6.out.get 1 rfl;have e2:=X6.out.get 2 rfl;have e3:=X6.out.get 3 rfl;have e4:=X6.out.get 4 rfl;have e5:=X6.out.get 5 rfl) | (refine ae rfl 130 _ _ rfl w1.heap.size rfl (Ust.bA hT hnm hpf hlk hmd hsz) Ust.cr rfl 130 G6.out HO.out.2 rfl (aY _ _ _ _ _ _) ?_;intro wy gy ty;have GY:=ad gy;have TY:=ad ty;clear gy ty));have R6:=ad (R4.out.below A6.out);have U6:=ad (U4.out.bG A6.out U4.out.size);have HY6:=ad ((HY4.out.below A6.out).out (Out.aD TY.out ah (Nat.lt_succ_self _)) (fun x hx=> (HX3.out x hx).2.2));exact bodyPost_ret (fe Tryz.results64 HO.out _ w1.heap.size rfl _ (Ust.bA hT hnm hpf hlk hmd hsz) GY.out rfl) rfl ⟨⟨a3,n3,c3',rfl,HN3.out,HF3.out,HG3.out,HY6.out,fun x hx=> (HX3.out x hx).2.1⟩,R6.out.out (Out.aD TY.out ah (Nat.lt_succ_self _)) (.inl LG.out.1),U6.out.late TY.out LG.out.2⟩
end
end Go.Proofs.YtcjagakckffkiaaGreatDoor.dO
namespace Go.Proofs.YtcjagakckffkiaaGreatDoor.dO
open Go.RowKit Go.Proofs.YtcjagakckffkiaaGreatDoor.Fit bL Pnm
theorem AG (d:Int)(w:World) :Calls Tryz.prog 105 #[.int .u8 d] w fun e w'=>e= .returned (.bool (d !=0))/\w=w':=by
 go_enter Tryz.func105,Tryz.ntmps105;go_wp2;go_ret;exact⟨rfl,rfl⟩
theorem GH (a:Option Addr)(n c:Nat)(P:List Int)(w:World)(hi:eJ .u8 w a P)(hl:P.length=n)(hn:n<=9223372036854775807) :
 Calls Tryz.prog 67 #[.slice a n c,.func (.func 105) #[] #[]] w fun e w'=>e= .returned (.int .i64 (if gx P<n then(gx P:Int)else-1))/\w=w':=by
 have HI:=ad hi;have HL:=ad hl;have hn': (n:Int)<=9223372036854775807:=by omega
 obtain⟨R,hR⟩:=named (if gx P<n then(gx P:Int)else-1);obtain⟨k,hk⟩:=named (gx P);rw[<- hR.out];clear hi hl hn;go_enter Tryz.func67,Tryz.ntmps67;go_wp2_with fail;go_loop [5,8] (fun _ i=>∃j:Nat,j<=k/\i= .int .i64 j) (fun _ i=>n- (intOf i).toNat)
 case atStart=>exact⟨0,Nat.zero_le _,rfl⟩
 case round=>
  obtain⟨j,hj,rfl⟩:=hrel;have HJ:=ad hj;clear hj;have hkn:k<=n:=by rw[hk.out,<- HL.out];exact oG P
  by_cases hlt:j<n
  ·have hlt': (j:Int) <n:=by omega
   obtain⟨b,off,rfl,_⟩:=HI.out.plain (by rw[HL.out];omega);obtain⟨d,hd⟩:=named (P.getD j 0);have hcell:=HI.out.get j (by rw[HL.out];exact hlt);rw[<- hd.out]at hcell;by_cases hjk:j<k
   ·have cr:d=0:=by rw[hd.out];exact kI (by rw[<- hk.out];exact hjk)
    have hne: (d !=0) =false:=by rw[cr];rfl
    clear hd cr;go_wp2_with fail;refine(AG d w).mono ?_;rintro e w1 ⟨rfl,rfl⟩;rw[hne];go_wp2_with fail
    go_round
    case rel=>exact⟨j+1,by omega,by go_num⟩
    case measure=>simp[intOf];omega
   ·obtain rfl:j=k:=by have:=HJ.out;omega
    have cr:d≠0:=by rw[hd.out,hk.out];exact uC (by rw[<- hk.out,HL.out];omega)
    have hne: (d !=0) =true:=by simp[cr]
    have hR1:R=j:=by rw[hR.out,<- hk.out,if_pos hlt]
    clear hR hd cr;subst hR1;go_wp2_with fail;refine(AG d w).mono ?_;rintro e w1 ⟨rfl,rfl⟩;rw[hne];go_wp2_with fail;go_ret;exact⟨rfl,rfl⟩
  ·have hj:j=n:=by have:=HJ.out;omega
   have hR1:R= -1:=by rw[hR.out,<- hk.out,if_neg (by have:=HJ.out;omega)]
   clear hR;subst hR1;subst hj;go_wp2_with fail;go_ret;exact⟨rfl,rfl⟩
theorem xi {zs:List Int} :dW zs↔¬gx zs<zs.length:=by
 constructor
 ·intro h hl;exact uC hl (tF.1 h _ hl)
 ·intro h;exact tF.2 fun x hx=>kI (by have:=oG zs;omega)
theorem px (a:Option Addr)(n c:Nat)(zs:List Int)(w:World)(hb:eJ .u8 w a zs)(hl:zs.length=n)(hn:n<=9223372036854775807)(b:Bool)(hbz:b=true↔dW zs) :
 Calls Tryz.prog 62 #[.slice a n c] w fun e w'=>e= .returned (.bool b)/\w=w':=by
 have IX:=ad (GH a n c zs w hb hl hn);by_cases h:gx zs<n
 ·obtain rfl:b=false:=by
   cases b with
   |false=>rfl
   |true=>exact absurd (by rw[hl];exact h) (xi.1 (hbz.1 rfl))
  rw[if_pos h]at IX;obtain⟨k,hk⟩:=named (gx zs);rw[<- hk.out]at IX h;have h0: (0:Int)<=k:=by omega
  have hd:decide ((k:Int)≥0) =true:=by simp
  clear hb hl hn hbz hk h;go_enter Tryz.func62,Tryz.ntmps62;go_wp2_with fail;go_enter Tryz.func104,Tryz.ntmps104;go_wp2_with fail;refine IX.out.mono ?_;rintro e w1 ⟨rfl,rfl⟩;go_wp2_with fail;go_ret;go_wp2_with fail
 ·obtain rfl:b=true:=hbz.2 (xi.2 (by rw[hl];exact h));rw[if_neg h]at IX;clear hb hl hn hbz h;go_enter Tryz.func62,Tryz.ntmps62;go_wp2_with fail;go_enter Tryz.func104,Tryz.ntmps104;go_wp2_with fail;refine IX.out.mono ?_;rintro e w1 ⟨rfl,rfl⟩;go_wp2_with fail;go_ret;go_wp2_with fail
end Go.Proofs.YtcjagakckffkiaaGreatDoor.dO
