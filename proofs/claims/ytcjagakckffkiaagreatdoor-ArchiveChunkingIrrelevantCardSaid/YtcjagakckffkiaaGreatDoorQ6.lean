import Derived.Test.YtcjagakckffkiaaGreatDoorQ5
import Derived.Test.YtcjagakckffkiaaGreatDoorQ1
import Derived.Test.YtcjagakckffkiaaGreatDoorQ3
set_option maxHeartbeats 16000000
namespace Go.Proofs.YtcjagakckffkiaaGreatDoor.dO
open Go.Lib Go.RowKit Go.Proofs.YtcjagakckffkiaaGreatDoor.Fit bL Pnm
def ez:dY:=⟨0,emp,0,emp,0⟩
abbrev ir:ByteArray:= {data:= #[112,97,120]}
def jc (h:Hd) :List Int:=Ust.dL h.T h.nm h.pf h.lk h.md h.sz
def Qn (h:Hd) :Int:=Ust.mA h.T h.nm h.pf h.lk h.md h.sz
def hX (n:Nat) :Hd:=⟨120,ir,emp,emp,0,n⟩
def iA (l:List Int) :List Int:=l++ao (bU l.length)
def xq (e:dY) :List Int:=if(gI e).length=0 then []else jc (hX (dR (gI e)).length) ++iA (dR (gI e))
def eW (e:dY) :List Int:=if dn e≠0 then []else xq e++jc (gr e)
structure DR where
 x:dY
 p:Nat
 e:Int
 o:Nat
 s:Int
def iB (B:List Int) :Hd:=⟨Ust.dT B,Ust.oN B,Ust.og B,Ust.oP B,Ust.pT B,Ust.pS B⟩
def eY (h:Hd) :Prop:=h.nm=ir/\h.pf=emp/\h.lk=emp/\h.md=0/\1<=h.sz/\h.sz<=262144
def dW (B:List Int) :Prop:=∀z∈B,z=0
open Classical in
noncomputable def vM (h:Hd)(rs:List Rec)(o last o':Nat) :DR:=if oR h rs then⟨lr h rs,o,0,o',0⟩else⟨ez,last,if rs.length=0 then 6 else 17,o',0⟩
noncomputable def Dc (Z:List Int)(o:Nat)(rs:List Rec)(o2:Nat) :DR:=
 if Ust.fB ((Z.drop o2).take 512)≠0 then⟨ez,o2,Ust.fB ((Z.drop o2).take 512),o2+512,0⟩else vM (iB ((Z.drop o2).take 512)) rs o o2 (o2+512)
noncomputable def CF (Z:List Int)(E:Int)(o:Nat)(P:List Rec×Nat×Int)(o2:Nat) :DR:=
 if P.2.2≠0 then⟨ez,o+512+P.2.1,P.2.2,o2,0⟩else if bM Z E o2 0≠0 then⟨ez,fu Z o2 0,if bM Z E o2 0=4 then 5 else bM Z E o2 0,fu Z o2 0,bM Z E o2 0⟩else Dc Z o P.1 o2
open Classical in
noncomputable def nQ (Z:List Int)(E:Int)(o:Nat)(h:Hd) :DR:=
 if¬eY h then⟨ez,o,17,o+512,0⟩else if eO Z E (o+512) 0 h.sz≠0 then⟨ez,mw Z (o+512) 0 h.sz,eO Z E (o+512) 0 h.sz,jQ Z (o+512) 0 h.sz,nP Z E (o+512) 0 h.sz⟩
  else CF Z E o (bh (gw Z (o+512) 0 h.sz)) (jQ Z (o+512) 0 h.sz)
open Classical in
noncomputable def pg (Z:List Int)(E:Int)(o:Nat)(B:List Int) :DR:=
 if dW B then⟨ez,o,18,o+512,0⟩else if Ust.fB B≠0 then⟨ez,o,Ust.fB B,o+512,0⟩else if Ust.dT B=120 then nQ Z E o (iB B)else vM (iB B) [] o o (o+512)
noncomputable def du (Z:List Int)(E:Int)(o:Nat)(err:Int) :DR:=
 if bM Z E o err≠0 then⟨ez,fu Z o err,bM Z E o err,fu Z o err,bM Z E o err⟩else pg Z E o ((Z.drop o).take 512)
theorem rm {n:Nat}(h:n<=8589934591) :Qn (hX n) =0:=by
 refine Ust.dx.2 ⟨.inr (.inr (.inr (.inr rfl))),?_,?_,?_,⟨Int.le_refl _,by show(0:Int)<=4095;decide⟩,?_⟩
 ·show Cst.jd (af ir) 100=0;decide
 ·show Cst.jd (af emp) 100=0;decide
 ·show Cst.jd (af emp) 155=0;decide
 ·show 0<= (n:Int)/\ (n:Int)<=8589934591;omega
theorem fZ {h:Hd}(hc:Qn h=0) :Ust.fB (jc h) =0/\iB (jc h) =h/\ (jc h).length=512/\¬dW (jc h)/\Bytes (jc h)/\Ust.known h.T:=by
 obtain⟨a0,a1,a2,a3,a4,a5,a6⟩:=Ust.AO hc;have hk:= (Ust.dx.1 hc).1;have hl: (jc h).length=512:=Ust.lT hc;refine⟨a0,?_,hl,?_,Ust.CB (Ust.jr hk) _ _ _ _ _,hk⟩
 ·show Hd.mk (Ust.dT _) (Ust.oN _) (Ust.og _) (Ust.oP _) (Ust.pT _) (Ust.pS _) =h;unfold jc;rw[a1,a2,a3,a4,a5,a6]
 ·intro hz;have h1: (jc h).getD 156 0=h.T:=a1;have h2:=hz _ (List.getElem_mem (l:=jc h) (n:=156) (by omega));rw[List.getD_eq_getElem?_getD,List.getElem?_eq_getElem (by omega)]at h1;have h3:h.T=0:=h1.symm.trans h2;unfold Ust.known at hk;omega
theorem Ao {B:List Int}(h:Ust.fB B=0) :jc (iB B) =B/\Qn (iB B) =0/\B.length=512/\Ust.known (Ust.dT B) :=by
 obtain⟨h1,_,h3,_,h5,h6⟩:=Ust.yS h;exact⟨h6,h5,h1,h3⟩
theorem tM {e:dY}(h:dn e=0) :Qn (gr e) =0:= (Mc (dB.1 h)).2.2.2
theorem Qr {e:dY}(h:dn e=0) : (gr e).T≠120:=by
 have:=wY (dB.1 h).k0 (dB.1 h).k4;show yf e.k≠120;omega
theorem lW {e:dY}(h:dn e=0) : (dR (gI e)).length<=196665:=by
 have:=Gt (qh (dB.1 h)) (gI e).length;rw[List.take_length]at this;exact this
theorem NQ (r:Rec) :1<= (lA r).length:=by unfold lA;simp only[List.length_append,List.length_singleton];omega
theorem zx:∀{l:List Rec},l.length≠0->1<= (dR l).length
 | [],h=>absurd rfl h
 |r::l,_=>by rw[iL,List.length_append];have:=NQ r;omega
theorem qy (l:List Int) : (iA l).length=512*aZ l.length:=by unfold iA;rw[List.length_append,al];exact dZ _
theorem kL {e:dY}(h:dn e=0) : (eW e).length= (xq e).length+512/\ (xq e).length=if(gI e).length=0 then 0 else 512+512*aZ (dR (gI e)).length:=by
 constructor
 ·unfold eW;rw[if_neg (by simpa using h),List.length_append,(fZ (tM h)).2.2.1]
 ·unfold xq
  split
  ·rfl
  ·rw[List.length_append,qy,(fZ (rm (by have:=lW h;omega))).2.2.1]
theorem xC (rs:List Rec) :Bytes (dR rs) :=by
 intro z hz;unfold dR at hz;obtain⟨l,hl,hz⟩:=List.mem_flatten.1 hz;obtain⟨r,_,rfl⟩:=List.mem_map.1 hl;unfold lA at hz;simp only[List.mem_append,List.mem_singleton]at hz
 have hd:∀z∈dq (lv r),0<=z/\z<=255:=fun z hz=>by
  have:= (List.all_eq_true.1 (iI (lv r))) z hz;rw[eM]at this;omega
 rcases hz with((((hz|rfl) |hz) |rfl) |hz) |rfl
 ·exact hd z hz
 ·decide
 ·exact dw _ z hz
 ·decide
 ·exact dw _ z hz
 ·decide
theorem Gw (e:dY) :Bytes (eW e) :=by
 unfold eW
 split
 ·exact fun z hz=>by simp at hz
 ·rename_i h;have h:dn e=0:=Decidable.byContradiction h;refine Bytes.append ?_ (fZ (tM h)).2.2.2.2.1;unfold xq
  split
  ·exact fun z hz=>by simp at hz
  ·exact(fZ (rm (by have:=lW h;omega))).2.2.2.2.1.append ((xC _).append (cZ _))
theorem kH {n:Nat}(h1:1<=n)(h2:n<=262144) :eY (hX n) :=⟨rfl,rfl,rfl,rfl,by show 1<= (n:Int);omega,by show(n:Int)<=262144;omega⟩
theorem kV {Z A B:List Int}{o k:Nat}(h:Z.drop o=A++B)(hk:A.length=k) :Z.drop (o+k) =B:=by
 rw[<- List.drop_drop,h,<- hk,List.drop_left]
theorem qb {Z A B:List Int}{o k:Nat}(h:Z.drop o=A++B)(hk:A.length=k) : (Z.drop o).take k=A/\ (o<=Z.length->o+k<=Z.length) :=by
 refine⟨by rw[h,<- hk,List.take_left],fun ho=>?_⟩;have:=congrArg List.length h;rw[List.length_drop,List.length_append]at this;omega
theorem MP {e:dY}(h:dn e=0){Z R:List Int}{o o2:Nat}{rs:List Rec}(hr:rs=gI e)(hZ:Z.drop o2=jc (gr e) ++R) :Dc Z o rs o2=⟨e,o,0,o2+512,0⟩:=by
 obtain⟨d0,d1,d2,_⟩:=fZ (tM h);unfold Dc vM;rw[(qb hZ d2).1,if_neg (by simpa using d0),d1,hr,if_pos (zS (dB.1 h)),back (dB.1 h)]
theorem uV {e:dY}(h:dn e=0){Z R:List Int}{E:Int}{o:Nat}(hZ:Z.drop o=eW e++R)(ho:o<=Z.length) :du Z E o 0=⟨e,o,0,o+ (eW e).length,0⟩:=by
 obtain⟨l1,l2⟩:=kL h;have hz:eW e=xq e++jc (gr e) :=by unfold eW;rw[if_neg (by simpa using h)]
 by_cases h0: (gI e).length=0
 ·have hL:xq e= [] :=by unfold xq;rw[if_pos h0]
  rw[hz,hL,List.nil_append]at hZ;obtain⟨d0,d1,d2,d3,_⟩:=fZ (tM h);obtain⟨t1,t2⟩:=qb hZ d2;obtain⟨_,n2,_⟩:=fx (E:=E) (t2 ho);have hT:Ust.dT (jc (gr e)) = (gr e).T:=congrArg Hd.T d1;unfold du pg vM;rw[n2,if_neg (by simp),t1,if_neg d3,if_neg (by simpa using d0),if_neg (by rw[hT];exact Qr h),d1];have hm:=zS (dB.1 h);have hb:=back (dB.1 h);have hn:gI e= [] :=List.length_eq_zero_iff.1 h0;rw[hn]at hm hb;rw[if_pos hm,hb,l1,l2,if_pos h0]
 ·have hL:xq e=jc (hX (dR (gI e)).length) ++iA (dR (gI e)) :=by unfold xq;rw[if_neg h0]
  obtain⟨n,hn⟩:∃n,n= (dR (gI e)).length:=⟨_,rfl⟩;have hn1:1<=n:=by rw[hn];exact zx h0
  have hn2:n<=196665:=by rw[hn];exact lW h
  rw[hz,hL,<- hn,List.append_assoc,List.append_assoc]at hZ;obtain⟨d0,d1,d2,d3,_⟩:=fZ (rm (n:=n) (by omega));obtain⟨t1,t2⟩:=qb hZ d2;have hZ1:=kV hZ d2;have ho1:=t2 ho;obtain⟨_,n2,_⟩:=fx (E:=E) ho1;have hT:Ust.dT (jc (hX n)) =120:=congrArg Hd.T d1;have hZ1':Z.drop (o+512) =dR (gI e) ++ao (bU (dR (gI e)).length) ++ (jc (gr e) ++R) :=hZ1;obtain⟨r1,r2,r3,r4,r5⟩:=pZ (E:=E) hZ1' rfl (by omega) ho1;rw[<- hn]at r1 r2 r3 r4 r5;have hsz: (hX n).sz= (n:Int) :=rfl;have hpar:=DY (qh (dB.1 h)) (by omega)
  have ho2:o+512+ (n+bU n)<=Z.length:=by
   have:=congrArg List.length hZ1';rw[List.length_drop,List.length_append,List.length_append,al,<- hn]at this;omega
  have hZ2:Z.drop (o+512+ (n+bU n)) =jc (gr e) ++R:=kV hZ1' (by rw[List.length_append,al,<- hn]);have ho3:= (qb hZ2 (fZ (tM h)).2.2.1).2 ho2;obtain⟨_,m2,_⟩:=fx (E:=E) ho3;unfold du pg;rw[n2,if_neg (by simp),t1,if_neg d3,if_neg (by simpa using d0),if_pos hT,d1];unfold nQ;rw[if_neg (not_not_intro (kH hn1 (by omega))),hsz,r1,if_neg (by simp),r3,r4,hpar];unfold CF;rw[if_neg (by simp),m2,if_neg (by simp),MP h rfl hZ2,l1,l2,if_neg h0,<- hn,<- dZ];simp only[DR.mk.injEq,true_and,and_true];omega
end Go.Proofs.YtcjagakckffkiaaGreatDoor.dO
namespace Go.Proofs.YtcjagakckffkiaaGreatDoor.dO
open Go.Lib Go.RowKit Go.Proofs.YtcjagakckffkiaaGreatDoor.Fit bL Pnm
theorem Lp {e:dY}(h:dn e=0){Z:List Int}{k:Nat}(hk:k< (eW e).length)(hZ:Z= (eW e).take k) :
 (du Z 4 0 0).x=ez/\ (du Z 4 0 0).p=k/\ (du Z 4 0 0).e=if k=0 then 4 else 5:=by
 obtain⟨l1,l2⟩:=kL h;have hl:Z.length=k:=by rw[hZ,List.length_take];omega
 have hz:eW e=xq e++jc (gr e) :=by unfold eW;rw[if_neg (by simpa using h)]
 by_cases hk5:0+512<=Z.length
 ·have h0: (gI e).length≠0:=fun h0=>by rw[if_pos h0]at l2;omega
  rw[if_neg h0]at l2;have hL:xq e=jc (hX (dR (gI e)).length) ++iA (dR (gI e)) :=by unfold xq;rw[if_neg h0]
  obtain⟨n,hn⟩:∃n,n= (dR (gI e)).length:=⟨_,rfl⟩;have hn1:1<=n:=by rw[hn];exact zx h0
  have hn2:n<=196665:=by rw[hn];exact lW h
  rw[<- hn]at l2 hL;obtain⟨d0,d1,d2,d3,_⟩:=fZ (rm (n:=n) (by omega))
  have hZA:Z=jc (hX n) ++ (iA (dR (gI e)) ++jc (gr e)).take (k- 512) :=by
   rw[hZ,hz,hL,List.append_assoc,List.take_append,d2,List.take_of_length_le (by omega)]
  have t1: (Z.drop 0).take 512=jc (hX n) :=by rw[List.drop_zero,hZA,<- d2,List.take_left]
  obtain⟨_,n2,_⟩:=fx (E:=4) hk5;have hT:Ust.dT (jc (hX n)) =120:=congrArg Hd.T d1;have hsz: (hX n).sz= (n:Int) :=rfl;have hs:n<=1099511627776:=by omega
  have e1:du Z 4 0 0=nQ Z 4 0 (hX n) :=by
   unfold du pg;rw[n2,if_neg (by simp),t1,if_neg d3,if_neg (by simpa using d0),if_pos hT,d1]
  rw[e1];unfold nQ;rw[if_neg (not_not_intro (kH hn1 (by omega))),hsz];have hk0:k≠0:=by omega
  rw[if_neg hk0];by_cases hr:512+512*aZ n<=k
  ·have hZ1':Z.drop (0+512) =dR (gI e) ++ao (bU (dR (gI e)).length) ++ (jc (gr e)).take (k- 512- 512*aZ n) :=by
    have hd:Z.drop (0+512) = (iA (dR (gI e)) ++jc (gr e)).take (k- 512) :=kV (o:=0) (by rw[List.drop_zero];exact hZA) d2;rw[hd,List.take_append,qy,<- hn,List.take_of_length_le (by rw[qy,<- hn];omega)];unfold iA;rw[<- hn]
   obtain⟨r1,r2,r3,r4,r5⟩:=pZ (E:=4) hZ1' rfl (by omega) (by omega);rw[<- hn]at r1 r2 r3 r4 r5;have hpar:=DY (qh (dB.1 h)) (by omega);rw[r1,if_neg (by simp),r3,r4,hpar];unfold CF;have hst:¬(0+512+ (n+bU n)) +512<=Z.length:=by rw[dZ];omega
   obtain⟨_,m2,m3⟩:=eR (E:=4) hst;rw[if_neg (by simp),m3]
   have m4:bM Z 4 (0+512+ (n+bU n)) 0=5\/bM Z 4 (0+512+ (n+bU n)) 0=4:=by
    rw[m2];split
    ·exact .inl rfl
    ·exact .inr rfl
   rcases m4 with m4|m4
   ·rw[m4,if_pos (by decide)];exact⟨rfl,hl,rfl⟩
   ·rw[m4,if_pos (by decide)];exact⟨rfl,hl,rfl⟩
  ·have hok:¬dM Z (0+512) 0 (aZ n) :=fun h=>h.elim (fun h=>by have:=DK hn1;omega) (fun h=>by omega);obtain⟨r1,r2,r3,r4,r5⟩:=jM (E:=4) hs rfl hok;have hp:rJ Z (0+512) 0 (aZ n) =Z.length:=by unfold rJ;rw[if_neg hok,if_neg (by simp)]
   have he:jY Z 4 (0+512) 0 (aZ n) =5\/jY Z 4 (0+512) 0 (aZ n) =4:=by
    unfold jY;rw[if_neg hok,if_neg (by simp)];split
    ·exact .inl rfl
    ·exact .inr rfl
   have hr1:eO Z 4 (0+512) 0 n=5:=by rw[r1];rcases he with he|he<;>rw[he] <;>decide
   rw[hr1,if_pos (by decide)];exact⟨rfl,by show mw Z (0+512) 0 n=k;rw[r2,hp,hl],rfl⟩
 ·obtain⟨_,n2,n3⟩:=eR (E:=4) hk5;have hne:bM Z 4 0 0≠0:=by rw[n2];split<;>decide
  have e1:du Z 4 0 0=⟨ez,fu Z 0 0,bM Z 4 0 0,fu Z 0 0,bM Z 4 0 0⟩:=by unfold du;rw[if_pos hne]
  rw[e1];refine⟨rfl,by show fu Z 0 0=k;rw[n3,hl],?_⟩;show bM Z 4 0 0=_;rw[n2,hl];by_cases h0:k=0
  ·rw[if_pos h0,if_neg (by omega)]
  ·rw[if_neg h0,if_pos ⟨rfl,by omega⟩]
theorem Gy {P:List Int}(h:¬gx P<P.length) :P=ao P.length:=by
 apply List.ext_getElem?;intro i;by_cases hi:i<P.length
 ·have h0:=kI (P:=P) (i:=i) (by have:=oG P;omega);rw[List.getD_eq_getElem?_getD,List.getElem?_eq_getElem hi]at h0;have h1:P[i] =0:=h0;unfold ao;rw[List.getElem?_eq_getElem hi,h1,List.getElem?_replicate,if_pos hi]
 ·rw[List.getElem?_eq_none (by omega),List.getElem?_eq_none (by rw[al];omega)]
def KA (Z:List Int)(o:Nat)(d:DR) :Prop:=
 (d.e=0/\dn d.x=0/\d.p=o/\o<d.o/\d.o<=Z.length/\d.s=0/\ (Z.drop o).take (d.o- o) =eW d.x)\/ (d.e≠0/\o<=d.p/\d.p<=Z.length/\d.o<=Z.length/\d.x=ez)
theorem fR {Z:List Int}{o p o':Nat}{e s:Int}(he:e≠0)(h1:o<=p)(h2:p<=Z.length)(h3:o'<=Z.length) :KA Z o ⟨ez,p,e,o',s⟩:= .inr ⟨he,h1,h2,h3,rfl⟩
theorem zM {Z:List Int}{o last:Nat}{h:Hd}{rs:List Rec}{o2:Nat}(hl:o<=last)(ho:last<=Z.length)(h2:o2<=Z.length)(h3:o<o2)
 (hok:oR h rs-> (Z.drop o).take (o2- o) =eW (lr h rs)) :KA Z o (vM h rs o last o2) :=by
 unfold vM
 split
 ·rename_i hm;exact .inl ⟨rfl,hm.1,rfl,h3,h2,rfl,hok hm⟩
 ·refine .inr ⟨?_,hl,ho,h2,rfl⟩;show(if rs.length=0 then(6:Int)else 17)≠0
  split<;>decide
theorem wj (L:List Int)(a b:Nat) :L.take (a+b) =L.take a++ (L.drop a).take b:=List.take_add ..
theorem mF {Z:List Int}{E:Int}{o:Nat}{err:Int}(hZB:Bytes Z)(hE:E=11\/E=4)(ho:o<=Z.length) :KA Z o (du Z E o err) :=by
 unfold du;by_cases hn:bM Z E o err≠0
 ·rw[if_pos hn];have h1:o<=fu Z o err:=by unfold fu;split;exact ah;split<;>omega
  exact fR hn h1 (nY ho) (nY ho)
 ·rw[if_neg hn];have hn0:bM Z E o err=0:=Decidable.byContradiction hn
  have hg:err=0/\o+512<=Z.length:=by
   unfold bM at hn0;by_cases he:err≠0
   ·rw[if_pos he]at hn0;exact absurd hn0 he
   ·rw[if_neg he]at hn0;refine⟨Decidable.byContradiction he,?_⟩;by_cases hc:o+512<=Z.length
    ·exact hc
    ·rw[if_neg hc]at hn0
     split at hn0<;>omega
  obtain⟨_,hg⟩:=hg;obtain⟨B,hB⟩:∃B,B= (Z.drop o).take 512:=⟨_,rfl⟩;rw[<- hB];unfold pg;by_cases hz:dW B
  ·rw[if_pos hz];exact fR (by decide) ah ho hg
  ·rw[if_neg hz];by_cases hd:Ust.fB B≠0
   ·rw[if_pos hd];exact fR hd ah ho hg
   ·rw[if_neg hd];obtain⟨b1,b2,b3,b4⟩:=Ao (Decidable.byContradiction hd);by_cases hT:Ust.dT B=120
    ·rw[if_pos hT];unfold nQ;by_cases hp:eY (iB B)
     ·rw[if_neg (not_not_intro hp)];obtain⟨x1,x2,x3,x4,x5,x6⟩:=hp;obtain⟨s,hs⟩:∃s:Nat,(iB B).sz=s:=⟨(iB B).sz.toNat,by omega⟩;rw[hs];have hs9:s<=1099511627776:=by omega
      by_cases hr:eO Z E (o+512) 0 s≠0
      ·rw[if_pos hr];refine fR hr ?_ ?_ (FC hg)
       ·by_cases hok:dM Z (o+512) 0 (aZ s)
        ·by_cases hi:gx (bj Z (o+512) s) < (bj Z (o+512) s).length
         ·rw[(gM (E:=E) hs9 rfl hok hi).2.1];omega
         ·rw[(jN (E:=E) hs9 rfl hok hi).2.1];omega
        ·rw[(jM (E:=E) hs9 rfl hok).2.1];unfold rJ;rw[if_neg hok,if_neg (by simp)];omega
       ·by_cases hok:dM Z (o+512) 0 (aZ s)
        ·have hl:=iS hok
         have hle:o+512+512*aZ s<=Z.length:=by
          rcases hok with h|h
          ·rw[h];exact hg
          ·exact h.2
         have hb:=ny s;by_cases hi:gx (bj Z (o+512) s) < (bj Z (o+512) s).length
         ·rw[(gM (E:=E) hs9 rfl hok hi).2.1];rw[hl.1]at hi;omega
         ·rw[(jN (E:=E) hs9 rfl hok hi).2.1];exact hle
        ·rw[(jM (E:=E) hs9 rfl hok).2.1];exact yJ hg
      ·rw[if_neg hr];have hr0:eO Z E (o+512) 0 s=0:=Decidable.byContradiction hr
       have hok:dM Z (o+512) 0 (aZ s) :=by
        apply Decidable.byContradiction;intro hok;have h1:= (jM (E:=E) hs9 rfl hok).1;have h2:=ry hE hok;rw[h1]at hr0
        split at hr0
        ·cases hr0
        ·exact h2 hr0
       have hi:¬gx (bj Z (o+512) s) < (bj Z (o+512) s).length:=by
        intro hi;rw[(gM (E:=E) hs9 rfl hok hi).1]at hr0
        cases hr0
       obtain⟨_,_,r3,r4,_⟩:=jN (E:=E) hs9 rfl hok hi;obtain⟨pl,xl⟩:=iS hok
       have hle:o+512+512*aZ s<=Z.length:=by
        rcases hok with h|h
        ·rw[h];exact hg
        ·exact h.2
       have hbs:=ny s;obtain⟨D,hD⟩:∃D,D= (Z.drop (o+512)).take s:=⟨_,rfl⟩;have hDl:D.length=s:=by rw[hD,List.length_take,List.length_drop];omega
       have hDB:Bytes D:=by rw[hD];exact(hZB.drop _).take _
       have hpadD: (Z.drop (o+512)).take (512*aZ s) =iA D:=by
        have h1:= (List.take_append_drop s ((Z.drop (o+512)).take (512*aZ s))).symm;rw[List.take_take,Nat.min_eq_left hbs,<- hD]at h1;have h2: ((Z.drop (o+512)).take (512*aZ s)).drop s=bj Z (o+512) s:=rfl;rw[h2,Gy hi,pl]at h1;rw[h1];unfold iA;rw[hDl]
        congr 2
        have:=dZ s;omega
       rw[r3,r4,<- hD];obtain⟨o2,ho2⟩:∃o2,o2=o+512+512*aZ s:=⟨_,rfl⟩;rw[<- ho2];have hle2:o2<=Z.length:=by omega
       unfold CF;rcases qw D hDB with⟨q1,q2,q3,q4⟩|⟨q1,q2,q3⟩
       ·rw[if_neg (by simpa using q1)];by_cases hm:bM Z E o2 0≠0
        ·rw[if_pos hm];have h1:o2<=fu Z o2 0:=by unfold fu;split;exact ah;split<;>omega
         exact fR (by split<;>first|decide|exact hm) (by omega) (nY hle2) (nY hle2)
        ·rw[if_neg hm];have hm0:bM Z E o2 0=0:=Decidable.byContradiction hm
         have hg2:o2+512<=Z.length:=by
          unfold bM at hm0;rw[if_neg (by simp)]at hm0;by_cases hc:o2+512<=Z.length
          ·exact hc
          ·rw[if_neg hc]at hm0
           split at hm0<;>omega
         unfold Dc;obtain⟨C,hC⟩:∃C,C= (Z.drop o2).take 512:=⟨_,rfl⟩;rw[<- hC];by_cases hd2:Ust.fB C≠0
         ·rw[if_pos hd2];exact fR hd2 (by omega) hle2 hg2
         ·rw[if_neg hd2];obtain⟨c1,c2,c3,c4⟩:=Ao (Decidable.byContradiction hd2);refine zM (by omega) hle2 hg2 (by omega) fun hmg=>?_;obtain⟨m1,m2,m3⟩:=hmg;obtain⟨x,hx⟩:∃x,x=lr (iB C) (bL.bh D).1:=⟨_,rfl⟩;rw[<- hx]at m1 m2 m3⊢
          have hne: (gI x).length≠0:=by
           intro h0;rw[m3]at h0;rw[List.length_eq_zero_iff.1 h0,nj]at q3;rw[<- q3]at hDl;have:s=0:=hDl.symm;omega
          have hfm:dR (gI x) =D:=by rw[m3];exact q3
          have hBX:B=jc (hX s) :=by
           rw[<- b1];have hT': (iB B).T=120:=hT;unfold jc;rw[hT',x1,x2,x3,x4,hs];rfl
          unfold eW xq;rw[if_neg (by simpa using m1),if_neg hne,hfm,hDl,<- hBX,m2,c1,show o2+512- o=512+512*aZ s+512 by omega,wj,wj,List.drop_drop,List.drop_drop,<- hB,<- hpadD,hC,show o+ (512+512*aZ s) =o2 by omega]
       ·rw[if_pos q1];refine fR q1 (by omega) ?_ hle2;omega
     ·rw[if_pos hp];exact fR (by decide) ah ho hg
    ·rw[if_neg hT];refine zM ah ho hg (by omega) fun hmg=>?_;obtain⟨m1,m2,m3⟩:=hmg;unfold eW xq;rw[if_neg (by simpa using m1),m3,if_pos (show([] :List Rec).length=0 from rfl),m2,b1,List.nil_append,show o+512- o=512 by omega,hB]
end Go.Proofs.YtcjagakckffkiaaGreatDoor.dO
namespace Go.Proofs.YtcjagakckffkiaaGreatDoor.Tre
open Go.RowKit Pnm
structure Nd where
 k:Int
 p:ByteArray
 m:Int
 t:ByteArray
 d:List Int
 c:Int
def key (x:Nd) :List Int:=af x.p
def Le (x y:Nd) :Prop:=aP (key x) (key y)<=0
theorem Le.trans {x y z:Nd}(h:Le x y)(h':Le y z) :Le x z:=cY _ _ _ h h'
theorem tz {x y:Nd}(h:¬Le x y) :Le y x:=by
 unfold Le at*;rw[fQ];rcases gD (key x) (key y)with e|e|e<;>rw[e]at h⊢<;>omega
theorem Le.QP {x y:Nd}(h:Le x y)(h':Le y x) :x.p=y.p:=by
 unfold Le at*;rw[fQ]at h';exact eN ((cmp_eq (key x) (key y)).mp (by rcases gD (key x) (key y)with e|e|e<;>rw[e]at h h'⊢<;>omega))
theorem le_of_eq {x y:Nd}(h:x.p=y.p) :Le x y:=by
 unfold Le;rw[(cmp_eq _ _).mpr (show key x=key y by unfold key;rw[h])];exact Int.le_refl 0
def bk (l:List Nd)(x:Nd) :Nat->Nat
 |0=>0
 |k+1=>match l[k]? with
  |some y=>if 0<aP (key y) (key x)then bk l x k else k+1
  |none=>bk l x k
theorem Ml (l:List Nd)(x:Nd) :∀n,bk l x n<=n
 |0=>Nat.le_refl 0
 |n+1=>by
  have ih:=Ml l x n;unfold bk
  split
  ·split<;>omega
  ·omega
theorem yh (l:List Nd)(x:Nd) :∀n (_:n<=l.length),(∀j (_:j<n) (h:j<l.length),bk l x n<=j->¬Le l[j] x)/\∀(_:0<bk l x n) (h:bk l x n- 1<l.length),Le l[bk l x n- 1] x
 |0,_=>⟨fun j h=>absurd h (Nat.not_lt_zero j),fun h=>absurd h (Nat.lt_irrefl 0)⟩
 |n+1,hn=>by
  have ih:=yh l x n (by omega)
  have e:bk l x (n+1) =if 0<aP (key (l[n]'(by omega))) (key x)then bk l x n else n+1:=by
   rw[bk,List.getElem?_eq_getElem (show n<l.length by omega)]
  by_cases c:0<aP (key (l[n]'(by omega))) (key x)
  ·rw[if_pos c]at e;rw[e];refine⟨fun j hj h hb=>?_,ih.2⟩;by_cases h':j<n
   ·exact ih.1 j h' h hb
   ·obtain rfl:j=n:=by omega
    unfold Le;omega
  ·rw[if_neg c]at e;rw[e];refine⟨fun j hj h hb=>by omega,fun _ h=>?_⟩;unfold Le;exact Int.not_lt.mp c
def nh (l:List Nd)(x:Nd) :List Nd:=l.take (bk l x l.length) ++x::l.drop (bk l x l.length)
theorem Ie (l:List Nd)(x:Nd) : (nh l x).Perm (x::l) :=by
 unfold nh;exact List.perm_middle.trans (by rw[List.take_append_drop])
def sC (l:List Nd) :Prop:=l.Pairwise Le
theorem wu {l:List Nd}{n:Nat}(hs:sC l){y x:Nd}(hy:y∈l.take n)(h:0<n->∀(h:n- 1<l.length),Le l[n- 1] x)(hn:n<=l.length) :Le y x:=by
 obtain⟨i,hi,rfl⟩:=List.getElem_of_mem hy;rw[List.length_take]at hi;rw[List.getElem_take];by_cases e:i=n- 1
 ·subst e;exact h (by omega) (by omega)
 ·exact Le.trans ((List.pairwise_iff_getElem.mp hs) i (n- 1) (by omega) (by omega) (by omega)) (h (by omega) (by omega))
theorem kB {l:List Nd}{x y:Nd}(hy:y∈l.drop (bk l x l.length)) :¬Le y x:=by
 obtain⟨i,hi,rfl⟩:=List.getElem_of_mem hy;rw[List.length_drop]at hi;rw[List.getElem_drop];exact(yh l x l.length ah).1 _ (by omega) (by omega) (by omega)
theorem py {l:List Nd}(hs:sC l){x y:Nd}(hy:y∈l.take (bk l x l.length)) :Le y x:=
 wu hs hy (fun h0 h=> (yh l x l.length ah).2 h0 h) (Ml _ _ _)
theorem JD {l:List Nd}(hs:sC l)(x:Nd) :sC (nh l x) :=by
 unfold nh sC;rw[List.pairwise_append];refine⟨hs.sublist (List.take_sublist _ _),List.pairwise_cons.mpr ⟨fun y hy=>tz (kB hy),hs.sublist (List.drop_sublist _ _)⟩,fun a ha b hb=>?_⟩;rcases List.mem_cons.mp hb with rfl|hb
 ·exact py hs ha
 ·exact(py hs ha).trans (tz (kB hb))
def at_ (q:ByteArray)(l:List Nd) :List Nd:=l.filter fun x=>decide (x.p=q)
theorem Nz {l:List Nd}(x:Nd)(q:ByteArray) :at_ q (nh l x) =at_ q (l++ [x]) :=by
 unfold nh at_;rw[List.filter_append,List.filter_append];by_cases h:x.p=q
 ·have e: (l.drop (bk l x l.length)).filter (fun y=>decide (y.p=q)) = [] :=by
   rw[List.filter_eq_nil_iff];intro y hy;have:=kB hy;intro e;exact this (le_of_eq ((of_decide_eq_true e).trans h.symm))
  rw[List.filter_cons,if_pos (decide_eq_true h),e,List.filter_cons,if_pos (decide_eq_true h),List.filter_nil]
  congr 1
  conv=>rhs;rw[<- List.take_append_drop (bk l x l.length) l,List.filter_append,e,List.append_nil]
 ·rw[List.filter_cons,if_neg (by rw[decide_eq_true_iff];exact h),List.filter_cons,if_neg (by rw[decide_eq_true_iff];exact h),List.filter_nil,List.append_nil,<- List.filter_append,List.take_append_drop]
theorem Eh {l:List Nd}{x:Nd}(h:∀y∈l,Le y x) :nh l x=l++ [x] :=by
 have e:bk l x l.length=l.length:=by
  cases hl:l.length with
  |zero=>rfl
  |succ n=>
   rw[bk,List.getElem?_eq_getElem (show n<l.length by omega)];have:=h l[n] (List.getElem_mem _);unfold Le at this;show(if 0<aP (key l[n]) (key x)then _ else _) =_;rw[if_neg (by omega)]
 unfold nh;rw[e,List.take_of_length_le ah,List.drop_of_length_le ah]
def za (acc l:List Nd) :List Nd:=l.foldl nh acc
def fw (l:List Nd) :List Nd:=za [] l
theorem ti:∀(l acc:List Nd),(za acc l).Perm (acc++l)
 | [],acc=>by rw[List.append_nil];exact List.Perm.refl _
 |x::l,acc=>by
  refine(ti l (nh acc x)).trans (((Ie acc x).append_right l).trans ?_);exact(List.perm_middle (l₁:=acc) (a:=x) (l₂:=l)).symm
theorem nf (l:List Nd) : (fw l).Perm l:=ti l []
theorem vV:∀(l:List Nd) {acc:List Nd} (_:sC acc),sC (za acc l)
 | [],_,h=>h
 |x::l,_,h=>vV l (JD h x)
theorem Ax (l:List Nd) :sC (fw l) :=vV l List.Pairwise.nil
theorem AS:∀(l acc:List Nd) (q:ByteArray),at_ q (za acc l) =at_ q (acc++l)
 | [],acc,q=>by rw[List.append_nil];rfl
 |x::l,acc,q=>by
  refine(AS l (nh acc x) q).trans ?_;have h:=Nz (l:=acc) x q;unfold at_ at*;rw[List.filter_append,h,<- List.filter_append,List.append_assoc];rfl
theorem Ny (l:List Nd)(q:ByteArray) :at_ q (fw l) =at_ q l:=AS l [] q
theorem zF:∀(l acc:List Nd),sC (acc++l)->za acc l=acc++l
 | [],acc,_=>by rw[List.append_nil];rfl
 |x::l,acc,h=>by
  have h':=h;unfold sC at h';rw[List.pairwise_append]at h';show za (nh acc x) l=_;rw[Eh fun y hy=>h'.2.2 y hy x (List.mem_cons_self ..)];rw[zF l (acc++ [x]) (by rw[List.append_assoc];exact h),List.append_assoc];rfl
theorem yV {l:List Nd}(h:sC l) :fw l=l:=zF l [] h
theorem Ko (l:List Nd) : (fw l).length=l.length:= (nf l).length_eq
theorem Ay (l:List Nd)(x:Nd) :x∈fw l↔x∈l:= (nf l).mem_iff
theorem xO:∀{a b:List Nd},sC a->sC b-> (∀q,at_ q a=at_ q b)->a=b
 | [],[],_,_,_=>rfl
 | [],y::b,_,_,h=>by
  have:=h y.p;unfold at_ at this;rw[List.filter_nil,List.filter_cons,if_pos (decide_eq_true rfl)]at this;cases this
 |x::a,[],_,_,h=>by
  have:=h x.p;unfold at_ at this;rw[List.filter_nil,List.filter_cons,if_pos (decide_eq_true rfl)]at this;cases this
 |x::a,y::b,ha,hb,h=>by
  have in1:y∈x::a:=by
   have:y∈at_ y.p (x::a) :=by rw[h];exact List.mem_filter.mpr ⟨List.mem_cons_self ..,decide_eq_true rfl⟩
   exact(List.mem_filter.mp this).1
  have in2:x∈y::b:=by
   have:x∈at_ x.p (y::b) :=by rw[<- h];exact List.mem_filter.mpr ⟨List.mem_cons_self ..,decide_eq_true rfl⟩
   exact(List.mem_filter.mp this).1
  have l1:Le x y:=by
   rcases List.mem_cons.mp in1 with e|e
   ·rw[e];exact le_of_eq rfl
   ·exact(List.pairwise_cons.mp ha).1 y e
  have l2:Le y x:=by
   rcases List.mem_cons.mp in2 with e|e
   ·rw[e];exact le_of_eq rfl
   ·exact(List.pairwise_cons.mp hb).1 x e
  have e:x.p=y.p:=l1.QP l2
  have e':x=y:=by
   have:=h x.p;unfold at_ at this;rw[List.filter_cons,if_pos (decide_eq_true rfl),List.filter_cons,if_pos (decide_eq_true e.symm)]at this;exact(List.cons.inj this).1
  subst e'
  rw[xO (List.pairwise_cons.mp ha).2 (List.pairwise_cons.mp hb).2 fun q=>by
   have:=h q;unfold at_ at this⊢;rw[List.filter_cons,List.filter_cons]at this
   split at this
   ·exact(List.cons.inj this).2
   ·exact this]
theorem MU {a l:List Nd}(h:sC a)(h':∀q,at_ q a=at_ q l) :a=fw l:=xO h (Ax l) fun q=> (h' q).trans (Ny l q).symm
def LF (l:List Nd) :Prop:=l.Pairwise fun x y=>x.p≠y.p
theorem LF.perm {a b:List Nd}(h:LF a)(hp:a.Perm b) :LF b:= (hp.pairwise_iff fun h e=>h e.symm).mp h
end Go.Proofs.YtcjagakckffkiaaGreatDoor.Tre
namespace Go.Proofs.YtcjagakckffkiaaGreatDoor.Tre
def dd (s:List Int) :List Int->List Int
 | [] =>s
 |c::t=>dd (if c∈s then s else s++ [c]) t
theorem Am (c:Int) :∀(t s:List Int),dd s (t++ [c]) =if c∈dd s t then dd s t else dd s t++ [c]
 | [],_=>rfl
 |_::t,_=>Am c t _
theorem zh (x:Int) :∀(t s:List Int),x∈dd s t↔x∈s\/x∈t
 | [],s=>by simp[dd]
 |c::t,s=>by
  rw[dd,zh x t];by_cases h:c∈s
  ·rw[if_pos h,List.mem_cons];constructor
   ·rintro(h|h)
    ·exact .inl h
    ·exact .inr (.inr h)
   ·rintro(h'|rfl|h')
    ·exact .inl h'
    ·exact .inl h
    ·exact .inr h'
  ·rw[if_neg h,List.mem_append,List.mem_singleton,List.mem_cons];exact⟨fun h=>h.elim (fun h=>h.elim .inl fun h=> .inr (.inl h)) fun h=> .inr (.inr h),fun h=>h.elim (fun h=> .inl (.inl h)) fun h=>h.elim (fun h=> .inl (.inr h)) .inr⟩
theorem DG {f:Int->Int} :∀(t s:List Int),(∀x y,x∈s\/x∈t->y∈s\/y∈t->f x=f y->x=y)->dd (s.map f) (t.map f) = (dd s t).map f
 | [],_,_=>rfl
 |c::t,s,h=>by
  have e: (if f c∈s.map f then s.map f else s.map f++ [f c]) = (if c∈s then s else s++ [c]).map f:=by
   by_cases hc:c∈s
   ·rw[if_pos hc,if_pos (List.mem_map_of_mem hc)]
   ·rw[if_neg hc,if_neg,List.map_append]
    ·rfl
    ·intro hm;obtain⟨a,ha,e⟩:=List.mem_map.mp hm;exact hc (h a c (.inl ha) (.inr (List.mem_cons_self ..)) e▸ha)
  rw[List.map_cons,dd,dd,e];refine DG t _ fun x y hx hy=>h x y ?_ ?_
  ·rcases hx with hx|hx
   ·split at hx
    ·exact .inl hx
    ·rcases List.mem_append.mp hx with hx|hx
     ·exact .inl hx
     ·exact .inr (List.mem_cons.mpr (.inl (List.mem_singleton.mp hx)))
   ·exact .inr (List.mem_cons_of_mem _ hx)
  ·rcases hy with hx|hx
   ·split at hx
    ·exact .inl hx
    ·rcases List.mem_append.mp hx with hx|hx
     ·exact .inl hx
     ·exact .inr (List.mem_cons.mpr (.inl (List.mem_singleton.mp hx)))
   ·exact .inr (List.mem_cons_of_mem _ hx)
theorem AY {f:Int->Int}{c:Int} :∀(s:List Int),(∀x,x∈s->f x=f c->x=c)-> (s.map f).idxOf (f c) =s.idxOf c
 | [],_=>rfl
 |a::s,h=>by
  rw[List.map_cons,List.idxOf_cons,List.idxOf_cons,AY s fun x hx=>h x (List.mem_cons_of_mem _ hx)];by_cases e:a=c
  ·subst e;simp
  ·have e':¬f a=f c:=fun h'=>e (h a (List.mem_cons_self ..) h');have b1: (a==c) =false:=by simpa using e
   have b2: (f a==f c) =false:=by simpa using e'
   rw[b1,b2]
theorem count_map {f:Int->Int}{c:Int} :∀(s:List Int),(∀x,x∈s->f x=f c->x=c)-> (s.map f).count (f c) =s.count c
 | [],_=>rfl
 |a::s,h=>by
  rw[List.map_cons,List.count_cons,List.count_cons,count_map s fun x hx=>h x (List.mem_cons_of_mem _ hx)];by_cases e:a=c
  ·subst e;simp
  ·have e':¬f a=f c:=fun h'=>e (h a (List.mem_cons_self ..) h');have b1: (a==c) =false:=by simpa using e
   have b2: (f a==f c) =false:=by simpa using e'
   rw[b1,b2]
def dy (l:List Int)(c:Int) :Prop:=0<c/\2<=l.count c
instance (l:List Int) (c:Int) :Decidable (dy l c) :=inferInstanceAs (Decidable (_/\_))
theorem dy.mem {l:List Int}{c:Int}(h:dy l c) :c∈l:=List.count_pos_iff.mp (by have:=h.2;omega)
def cls (l:List Int) :List Int:=dd [] (l.filter fun c=>decide (dy l c))
def num (l:List Int)(c:Int) :Int:=if dy l c then((cls l).idxOf c:Int) +1 else 0
theorem mX {l:List Int}{c:Int} :c∈cls l↔dy l c:=by
 unfold cls;rw[zh,List.mem_filter,decide_eq_true_iff];exact⟨fun h=>h.elim (fun h=>by cases h) fun h=>h.2,fun h=> .inr ⟨h.mem,h⟩⟩
theorem fP {l:List Int}{c:Int} :0<num l c↔dy l c:=by
 unfold num
 split
 ·rename_i h;exact⟨fun _=>h,fun _=>by omega⟩
 ·rename_i h;exact⟨fun h=>absurd h (by decide),fun h'=>absurd h' h⟩
theorem num_nonneg (l:List Int)(c:Int) :0<=num l c:=by unfold num;split<;>omega
theorem qo {l:List Int}{a b:Int}(ha:dy l a)(hb:dy l b)(h:num l a=num l b) :a=b:=by
 unfold num at h;rw[if_pos ha,if_pos hb]at h;have e: (cls l).idxOf a= (cls l).idxOf b:=by omega
 have h1:=List.getElem_idxOf (List.idxOf_lt_length_iff.mpr (mX.mpr ha));have h2:=List.getElem_idxOf (List.idxOf_lt_length_iff.mpr (mX.mpr hb));rw[<- h1,<- h2]
 congr 1
theorem zI {l:List Int}{f:Int->Int}(hm:∀a∈l,(dy (l.map f) (f a)↔dy l a))(hi:∀a b,dy l a->dy l b->f a=f b->a=b){a:Int}(ha:a∈l) :num (l.map f) (f a) =num l a:=by
 have e:cls (l.map f) = (cls l).map f:=by
  unfold cls;rw[List.filter_map]
  have e':l.filter ((fun c=>decide (dy (l.map f) c))∘f) =l.filter fun c=>decide (dy l c) :=List.filter_congr fun x hx=>by
   show decide (dy (l.map f) (f x)) =decide (dy l x);exact decide_eq_decide.mpr (hm x hx)
  rw[e'];refine DG _ [] fun x y hx hy h=>hi x y ?_ ?_ h
  ·rcases hx with hx|hx
   ·cases hx
   ·exact of_decide_eq_true (List.mem_filter.mp hx).2
  ·rcases hy with hx|hx
   ·cases hx
   ·exact of_decide_eq_true (List.mem_filter.mp hx).2
 unfold num;by_cases h:dy l a
 ·rw[if_pos h,if_pos ((hm a ha).mpr h),e,AY _ fun x hx=>hi x a (mX.mp hx) h]
 ·rw[if_neg h,if_neg fun h'=>h ((hm a ha).mp h')]
theorem Jt {l:List Int}{f:Int->Int}(hp:∀a∈l,(0<f a↔0<a))(hi:∀a∈l,∀b∈l,0<a->0<b->f a=f b->a=b){a:Int}(ha:a∈l) :num (l.map f) (f a) =num l a:=by
 refine zI (fun a ha=>?_) (fun a b ha hb=>hi a ha.mem b hb.mem ha.1 hb.1) ha;by_cases h:0<a
 ·unfold dy;rw[hp a ha,count_map l fun x hx e=>hi x hx a ha ((hp x hx).mp (by rw[e];exact(hp a ha).mpr h)) h e]
 ·exact⟨fun h'=>absurd ((hp a ha).mp h'.1) h,fun h'=>absurd h'.1 h⟩
theorem Lm {l:List Int}{a:Int}(ha:a∈l) :num (l.map (num l)) (num l a) =num l a:=by
 refine zI (fun a _=>?_) (fun a b ha hb h=>qo ha hb h) ha;by_cases h:dy l a
 ·unfold dy;rw[fP,count_map l fun x hx e=>qo (fP.mp (by rw[e];exact fP.mpr h)) h e];exact⟨fun h'=>⟨h.1,h'.2⟩,fun h'=>⟨h,h'.2⟩⟩
 ·exact⟨fun h'=>absurd (fP.mp h'.1) h,fun h'=>absurd h' h⟩
def bX (l:List Int)(n:Nat) :List Int:=dd [] ((l.take n).filter fun c=>decide (dy l c))
theorem ri (l:List Int) :bX l l.length=cls l:=by unfold bX cls;rw[List.take_of_length_le ah]
theorem gJ {l:List Int}{n:Nat}(h:n<l.length) :bX l (n+1) =if dy l l[n]/\l[n]∉bX l n then bX l n++ [l[n]]else bX l n:=by
 unfold bX;rw[List.take_succ_eq_append_getElem h,List.filter_append];by_cases hm:dy l l[n]
 ·rw[List.filter_cons,if_pos (decide_eq_true hm),List.filter_nil,Am]
  split
  ·rename_i h';rw[if_neg fun h=>h.2 h']
  ·rename_i h';rw[if_pos ⟨hm,h'⟩]
 ·rw[List.filter_cons,if_neg (by rw[decide_eq_true_iff];exact hm),List.filter_nil,List.append_nil,if_neg fun h=>hm h.1]
theorem wD {l:List Int} :∀{n m:Nat},n<=m->m<=l.length->∃r,bX l m=bX l n++r
 |n,m,h,hm=>by
  induction m with
  |zero=>obtain rfl:n=0:=by omega
         exact⟨[],by simp⟩
  |succ m ih=>
   by_cases e:n=m+1
   ·subst e;exact⟨[],by simp⟩
   ·obtain⟨r,hr⟩:=ih (by omega) (by omega);rw[gJ (by omega),hr]
    split
    ·exact⟨r++ [l[m]],by rw[List.append_assoc]⟩
    ·exact⟨r,rfl⟩
theorem je {l:List Int}{n:Nat}{c:Int}(hn:n<=l.length)(h:c∈bX l n) :num l c= ((bX l n).idxOf c:Int) +1:=by
 have hm:dy l c:=by
  unfold bX at h;rw[zh]at h;exact h.elim (fun h=>by cases h) fun h=>of_decide_eq_true (List.mem_filter.mp h).2
 unfold num;obtain⟨r,hr⟩:=wD (l:=l) hn ah;rw[if_pos hm,<- ri,hr,List.idxOf_append,if_pos h]
theorem uW {l:List Int}{n:Nat}(h:n<l.length)(hm:dy l l[n])(hc:l[n]∉bX l n) :num l l[n] = ((bX l n).length:Int) +1:=by
 have e:bX l (n+1) =bX l n++ [l[n]] :=by rw[gJ h,if_pos ⟨hm,hc⟩]
 rw[je (n:=n+1) h (by rw[e];simp),e,List.idxOf_append,if_neg hc];simp
end Go.Proofs.YtcjagakckffkiaaGreatDoor.Tre
