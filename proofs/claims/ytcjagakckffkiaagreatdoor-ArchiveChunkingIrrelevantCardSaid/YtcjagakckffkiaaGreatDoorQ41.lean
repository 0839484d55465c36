import Derived.Test.YtcjagakckffkiaaGreatDoorQ40
import Derived.Test.YtcjagakckffkiaaGreatDoorQ1
import Derived.Test.YtcjagakckffkiaaGreatDoorQ34
import Derived.Test.YtcjagakckffkiaaGreatDoorQ35
import Derived.Test.YtcjagakckffkiaaGreatDoorQ38
import Derived.Test.YtcjagakckffkiaaGreatDoorQ10
set_option maxHeartbeats 16000000
namespace Go.Proofs.YtcjagakckffkiaaGreatDoor
open Go.Lib Go.RowKit Go.Proofs.YtcjagakckffkiaaGreatDoor.Fit bL Pnm Tre Flt dO Reb Arc
theorem ie (a:Option Addr)(n cap:Nat)(ys:List aL)(w:World)(V:fb w)(ha:br w a n cap ys) :
 Calls Tryz.prog 10 #[.slice a n cap] w fun e w'=>e= .returned (.bool true)/\Below w.heap.size w w':=
 QK gC gG a n cap ys w (MV.of V) ha
end Go.Proofs.YtcjagakckffkiaaGreatDoor
namespace Go.Proofs.YtcjagakckffkiaaGreatDoor.Arc
open Go.Lib Go.RowKit Go.Proofs.YtcjagakckffkiaaGreatDoor.Fit bL Pnm Tre Flt dO Reb
section
variable {Z:List Int} {E:Int} {o:Nat}
theorem FX (ho:o<=Z.length)(i:Nat)(e:Int) :bM Z E (o+i) e=bM (Z.drop o) E i e:=by
 have a: (o+i+512<=Z.length)↔(i+512<= (Z.drop o).length) :=by rw[List.length_drop];omega
 have b: (o+i<Z.length)↔(i< (Z.drop o).length) :=by rw[List.length_drop];omega
 unfold bM;simp only[a,b]
theorem Eu (ho:o<=Z.length)(i:Nat)(e:Int) :fu Z (o+i) e=o+fu (Z.drop o) i e:=by
 have a: (o+i+512<=Z.length)↔(i+512<= (Z.drop o).length) :=by rw[List.length_drop];omega
 unfold fu;simp only[a];have b:o+ (Z.drop o).length=Z.length:=by rw[List.length_drop];omega
 split
 ·rfl
 ·split
  ·omega
  ·omega
theorem qu (i:Nat) :Z.drop (o+i) = (Z.drop o).drop i:=by rw[List.drop_drop]
theorem kQ (ho:o<=Z.length)(i:Nat)(e:Int)(n:Nat) :dM Z (o+i) e n↔dM (Z.drop o) i e n:=by
 unfold dM;rw[List.length_drop];constructor
 ·rintro(h|⟨h,h'⟩)
  ·exact .inl h
  ·exact .inr ⟨h,by omega⟩
 ·rintro(h|⟨h,h'⟩)
  ·exact .inl h
  ·by_cases hn:n=0
   ·exact .inl hn
   ·exact .inr ⟨h,by omega⟩
theorem Ij (ho:o<=Z.length)(i:Nat)(e:Int)(n:Nat) :jY Z E (o+i) e n=jY (Z.drop o) E i e n:=by
 unfold jY;simp only[kQ ho i e n];rw[List.length_drop,Nat.sub_sub]
theorem ER (ho:o<=Z.length)(i:Nat)(e:Int)(n:Nat) :rJ Z (o+i) e n=o+rJ (Z.drop o) i e n:=by
 unfold rJ;simp only[kQ ho i e n];have b:o+ (Z.drop o).length=Z.length:=by rw[List.length_drop];omega
 split
 ·omega
 ·split
  ·rfl
  ·omega
theorem sn (i s:Nat) :bj Z (o+i) s=bj (Z.drop o) i s:=by unfold bj;rw[qu]
theorem Nh (ho:o<=Z.length)(i:Nat)(e s:Int) :eO Z E (o+i) e s=eO (Z.drop o) E i e s:=by
 unfold eO;simp only[kQ ho,Ij ho,sn]
theorem Oh (ho:o<=Z.length)(i:Nat)(e s:Int) :gw Z (o+i) e s=gw (Z.drop o) i e s:=by
 unfold gw;simp only[kQ ho,sn,qu]
theorem Ni (ho:o<=Z.length)(i:Nat)(e s:Int) :mw Z (o+i) e s=o+mw (Z.drop o) i e s:=by
 unfold mw;simp only[kQ ho,ER ho,sn]
 split
 ·rfl
 ·split
  ·omega
  ·rfl
theorem Ns (ho:o<=Z.length)(i:Nat)(e s:Int) :jQ Z (o+i) e s=o+jQ (Z.drop o) i e s:=by
 unfold jQ;simp only[ER ho]
 split<;>rfl
theorem OI (ho:o<=Z.length)(i:Nat)(e s:Int) :nP Z E (o+i) e s=nP (Z.drop o) E i e s:=by
 unfold nP Ig;simp only[kQ ho,Ij ho]
def sh (o:Nat)(d:DR) :DR:=⟨d.x,o+d.p,d.e,o+d.o,d.s⟩
theorem qT {c:Prop}[Decidable c](a b:DR) :sh o (if c then a else b) =if c then sh o a else sh o b:=by split<;>rfl
theorem LY (h:Hd)(rs:List Rec)(a l p:Nat) :vM h rs (o+a) (o+l) (o+p) =sh o (vM h rs a l p) :=by
 unfold vM;by_cases hm:oR h rs
 ·rw[if_pos hm,if_pos hm];rfl
 ·rw[if_neg hm,if_neg hm];rfl
theorem Ob (a:Nat)(rs:List Rec)(o2:Nat) :Dc Z (o+a) rs (o+o2) =sh o (Dc (Z.drop o) a rs o2) :=by
 unfold Dc;rw[qu,qT,Nat.add_assoc,LY];rfl
theorem NU (ho:o<=Z.length)(a:Nat)(P:List Rec×Nat×Int)(o2:Nat) :CF Z E (o+a) P (o+o2) =sh o (CF (Z.drop o) E a P o2) :=by
 unfold CF;rw[FX ho,Eu ho,Ob,qT,qT,Nat.add_assoc,Nat.add_assoc];show _=if P.2.2≠0 then(⟨ez,o+ (a+512+P.2.1),P.2.2,o+o2,0⟩:DR)else _;rw[Nat.add_assoc];rfl
theorem My (ho:o<=Z.length)(a:Nat)(h:Hd) :nQ Z E (o+a) h=sh o (nQ (Z.drop o) E a h) :=by
 unfold nQ;by_cases hp:eY h
 ·have hn:¬¬eY h:=fun c=>c hp;rw[if_neg hn,if_neg hn,Nat.add_assoc,Nh ho,Ni ho,Ns ho,OI ho,Oh ho,NU ho,qT];rfl
 ·rw[if_pos hp,if_pos hp,Nat.add_assoc];rfl
theorem Oa (ho:o<=Z.length)(a:Nat)(B:List Int) :pg Z E (o+a) B=sh o (pg (Z.drop o) E a B) :=by
 unfold pg;by_cases hz:dW B
 ·rw[if_pos hz,if_pos hz,Nat.add_assoc];rfl
 ·rw[if_neg hz,if_neg hz,Nat.add_assoc,My ho,LY,qT,qT];rfl
theorem Ov (ho:o<=Z.length) :du Z E o 0=sh o (du (Z.drop o) E 0 0) :=by
 have h:du Z E (o+0) 0=sh o (du (Z.drop o) E 0 0) :=by
  unfold du;rw[FX ho,Eu ho,Oa ho,qu,qT];rfl
 exact h
end
theorem rj {P Q:List Int}{k:Nat}(h:P.length<=k) : (P++Q).take k=P++Q.take (k- P.length) :=by
 rw[List.take_append,List.take_of_length_le h]
theorem Gz {A:List Mb}(hA:Gd A){Z:List Int}{k:Nat}(hk:k< (cy A).length)(hZ:Z= (cy A).take k) :
 ∀f i,i<=A.length-> (cq (A.take i)).length<=k->k< (cq (A.take i)).length+f->jW Z 4 f (A.take i) (cq (A.take i)).length=⟨[],k,5⟩
 |0,i,_,h1,h2=>absurd h2 (by omega)
 |f+1,i,hi,h1,h2=>by
  have hZl:Z.length=k:=by rw[hZ,List.length_take];omega
  obtain⟨o,ho⟩:∃o,o= (cq (A.take i)).length:=⟨_,rfl⟩;have hoZ:o<=Z.length:=by rw[hZl,ho];exact h1
  rcases Nat.lt_or_eq_of_le hi with hlt|rfl
  ·have hx:A[i]? =some A[i] :=List.getElem?_eq_getElem hlt;obtain⟨x,hxe⟩:∃x,x=A[i] :=⟨_,rfl⟩;rw[<- hxe]at hx;obtain⟨c1,c2,c3⟩:=Gd.PO hA hx;obtain⟨R,hR⟩:∃R,R=cq (A.drop (i+1)) ++ao 1024:=⟨_,rfl⟩
   have hdr:Z.drop o= (kR x++R).take (k- o) :=by
    rw[hZ,List.drop_take,ho]
    congr 1
    unfold cy;rw[rT hx,hR]
   rw[<- ho];by_cases he:k- o< (eW x.e).length
   ·
    have hdr2:Z.drop o= (eW x.e).take (k- o) :=by rw[hdr];unfold kR;rw[List.append_assoc,List.take_append_of_le_length (by omega)]
    obtain⟨p1,p2,p3⟩:=Lp c2 he hdr2;have hd:=Ov (E:=4) hoZ;by_cases hk0:k- o=0
    ·rw[if_pos hk0]at p3;rw[uh hd (by show(du _ _ _ _).e=4;exact p3)];show(⟨[],o+ (du (Z.drop o) 4 0 0).p,5⟩:RR) =_;rw[p2];rw[show o+ (k- o) =k by omega]
    ·rw[if_neg hk0]at p3;have p3': (sh o (du (Z.drop o) 4 0 0)).e=5:=p3;rw[sO hd (by rw[p3'];decide) (by rw[p3'];decide) (by rw[p3'];decide)];show(⟨[],o+ (du (Z.drop o) 4 0 0).p,(du (Z.drop o) 4 0 0).e⟩:RR) =_;rw[p2,p3];rw[show o+ (k- o) =k by omega]
   ·have hdr1:Z.drop o=eW x.e++ ((x.d++ao (bU x.d.length)) ++R).take (k- o- (eW x.e).length) :=by
     rw[hdr];unfold kR;rw[List.append_assoc];exact rj (by omega)
    have hd:=uV (E:=4) c2 hdr1 hoZ;have ml:= @gO x;by_cases hf:k- o< (kR x).length
    ·
     have hke:x.e.k=1:=by
      apply Decidable.byContradiction;intro hne;have d0:x.d.length=0:=by have:= (ix c2).1 hne;omega
      rw[d0]at ml;have:bU 0=0:=rfl;omega
     obtain⟨-,s0,s1⟩:=ix c2;have hs:x.e.s= (x.d.length:Int) :=c3.symm;have hb:=dZ x.d.length
     have hno:¬dM Z (o+ (eW x.e).length) 0 (aZ x.d.length) :=by
      rintro(q|q)
      ·rw[q]at hb;omega
      ·have:=q.2;omega
     obtain⟨r1,r2,-⟩:=jM (E:=4) (by omega) rfl hno
     have hpy:jY Z 4 (o+ (eW x.e).length) 0 (aZ x.d.length) =4\/jY Z 4 (o+ (eW x.e).length) 0 (aZ x.d.length) =5:=by
      unfold jY;rw[if_neg hno,if_neg (by decide)]
      split
      ·exact .inr rfl
      ·exact .inl rfl
     have r1':eO Z 4 (o+ (eW x.e).length) 0 x.e.s=5:=by
      rw[hs,r1];rcases hpy with q|q<;>rw[q] <;>rfl
     have r2':mw Z (o+ (eW x.e).length) 0 x.e.s=k:=by
      rw[hs,r2];unfold rJ;rw[if_neg hno,if_neg (by decide),hZl]
     rw[mH hd rfl c1 hke (by show eO _ _ _ _ _≠0;rw[r1'];decide)];show(⟨[],mw Z (o+ (eW x.e).length) 0 x.e.s,eO Z 4 (o+ (eW x.e).length) 0 x.e.s⟩:RR) =_;rw[r1',r2']
    ·have hdr3:Z.drop o=kR x++R.take (k- o- (kR x).length) :=by rw[hdr];exact rj (by omega)
     have hl2:=jl hx;rw[<- ho]at hl2;rw[zN hA hx hdr3 hoZ,<- hl2];exact Gz hA hk hZ f (i+1) hlt (by omega) (by have:=vE x c2;omega)
  ·have hal: (cy A).length= (cq A).length+1024:=by unfold cy;rw[List.length_append,al]
   rw[List.take_length]at ho h1 h2⊢;rw[<- ho]at h1 h2 hal⊢
   have hdr:Z.drop o= (ao 1024).take (k- o) :=by
    rw[hZ,List.drop_take,ho]
    congr 1
    unfold cy;rw[List.drop_left]
   by_cases h5:k- o<512
   ·have hn:=eR (Z:=Z) (E:=4) (o:=o) (by omega)
    have hd:du Z 4 o 0=⟨ez,fu Z o 0,bM Z 4 o 0,fu Z o 0,bM Z 4 o 0⟩:=by
     unfold du;rw[if_pos];rw[hn.2.1]
     split<;>decide
    by_cases hk0:k=o
    ·have h4:bM Z 4 o 0=4:=by rw[hn.2.1,if_neg (by omega)]
     rw[uh hd h4];show(⟨[],fu Z o 0,5⟩:RR) =_;rw[hn.2.2,hZl]
    ·have h4:bM Z 4 o 0=5:=by rw[hn.2.1,if_pos ⟨rfl,by omega⟩]
     rw[sO hd (by show bM Z 4 o 0≠18;rw[h4];decide) (by show bM Z 4 o 0≠4;rw[h4];decide) (by show bM Z 4 o 0≠0;rw[h4];decide)];show(⟨[],fu Z o 0,bM Z 4 o 0⟩:RR) =_;rw[hn.2.2,hZl,h4]
   ·have hdr2:Z.drop o=ao 512++ (ao 512).take (k- o- 512) :=by
     rw[hdr,show ao 1024=ao 512++ao 512 from dK 512 512];have:=rj (P:=ao 512) (Q:=ao 512) (k:=k- o) (by rw[al];omega)
     rwa [al]at this
    have hd:=nv (E:=4) hdr2 hoZ;rw[mG hd rfl];show jX Z 4 A (o+512) =_;have hn:=eR (Z:=Z) (E:=4) (o:=o+512) (by omega)
    have h4:bM Z 4 (o+512) 0=4\/bM Z 4 (o+512) 0=5:=by
     rw[hn.2.1]
     split
     ·exact .inr rfl
     ·exact .inl rfl
    unfold jX;rw[if_pos (by rcases h4 with q|q<;>rw[q] <;>decide),hn.2.2,hZl];rcases h4 with q|q<;>rw[q] <;>rfl
theorem Ot {A:List Mb}(hA:Gd A){k:Nat}(hk:k< (cy A).length) :pO ((cy A).take k) 4=⟨[],k,5⟩:=by
 have hl: ((cy A).take k).length=k:=by rw[List.length_take];omega
 have:=Gz hA hk rfl (k+1) 0 (Nat.zero_le _) (Nat.zero_le _) (by show _<0+_;omega);unfold pO;rw[hl];exact this
end Go.Proofs.YtcjagakckffkiaaGreatDoor.Arc
namespace Go.Proofs.YtcjagakckffkiaaGreatDoor.Arc
open Go.Lib Go.RowKit Go.Proofs.YtcjagakckffkiaaGreatDoor.Fit bL Pnm Tre Flt dO Reb
theorem MT {l:List Nd}(h: (dA l).2=0) :Gd (iF l) :=by
 have hc:=oj (rL.mp h);unfold iF;rw[if_pos h];exact vA hc
theorem Em {w:World}{a:Option Addr}{n c:Nat}{zs:List aL}(h:br w a n c zs)(he:aI zs= []) :n=0:=by
 have h1:=h.n;have h2:=congrArg List.length he;rw[bg]at h2;exact h1.symm.trans h2
set_option maxRecDepth 100000 in
theorem Qs {B0:Nat}(HE:xo B0)(HD:xI B0)(a:Option Addr)(n cap:Nat)(ys:List aL)(cut:Int)(ma:Option Addr)(mn mc:Nat)(ms:List Int)(w:World)(V:MV B0 w)(ha:br w a n cap ys)(hcut: (Lit.int .u16 cut).wf=true)(hm:aB .u8 w ma mn mc ms) :
 Calls Tryz.prog 7 #[.slice a n cap,.int .u16 cut,.slice ma mn mc] w fun e w'=>e= .returned (.bool true)/\Below w.heap.size w w':=by
 have HA:=ad ha;have HV:=ad V;have HEE:=ad HE;have HDD:=ad HD;have LG:=ad (iU a n cap ys w ha);have HN:Hid (ys.length=n) :=ha.n;have HM:=ad hm.bytes;have HML:=ad hm.1
 have HC:Hid (0<=cut/\cut<=65535) :=by
  show _/\_;simp[Lit.wf,IntKind.min,IntKind.max,IntKind.signed,IntKind.bits]at hcut;omega
 obtain⟨ct,rfl⟩:∃ct:Nat,cut=ct:=⟨cut.toNat,by have:=HC.out;omega⟩;have hw:wrap64 (ct:Int) = (ct:Int) :=by have:=HC.out;unfold wrap64;omega
 have hml:mn<=maxLen:=Nat.le_trans hm.2.1 hm.2.2.1;obtain⟨i0,HI⟩:=fO (P:=Tryz.prog) (e:=5) (by kernel_rfl);have HI1:Hid ((Tryz.prog.info? 5).map (·.size) =some 1) :=by show _=_;kernel_rfl
 clear ha V HE HD hm hcut;go_enter Tryz.func7,Tryz.ntmps7;go_wp2_with fail;refine LG.out.mono ?_;rintro e w1 ⟨R,rfl,hR,b1⟩;have B1:=ad b1;have V1:=ad (HV.out.go b1);have A1:=ad (HA.out.below b1);have M1:=ad (HM.out.below b1);clear b1 LG;rcases hR with rfl|⟨rfl,hn,hy⟩
 ·go_wp2_with fail;refine(aX w1 HEE.out HDD.out V1.out).mono ?_;rintro e w2 ⟨rfl,b2⟩;have B2:=ad (B1.out.trans (b2.mono B1.out.size));clear b2;go_wp2_with fail;go_ret;exact⟨rfl,B2.out⟩
 by_cases h3: (3000:Int) <mn
 ·go_wp2_with fail;refine(aX w1 HEE.out HDD.out V1.out).mono ?_;rintro e w2 ⟨rfl,b2⟩;have B2:=ad (B1.out.trans (b2.mono B1.out.size));clear b2;go_wp2_with fail;go_ret;exact⟨rfl,B2.out⟩
 have MN:Hid (mn<=3000) :=by show _<=_;omega
 have LB:=Dq (l:=aI ys) (by rw[bg,HN.out];exact hn) (fun y h=>by
  unfold aI at h;obtain⟨u,hu,rfl⟩:=List.mem_map.mp h;exact(hy u hu).2.2)
 have BD:Hid ((cq (iF (aI ys))).length<=70000000) :=Nat.le_trans LB (by decide);have N40:Hid (n<=1000) :=Nat.le_trans hn (by decide);have AN:Hid ((iF (aI ys)).length<=1000) :=Nat.le_trans (uu _) (by rw[bg,HN.out];exact N40.out);have LBH:=ad LB;clear hn hy LB;obtain⟨Z,hZ⟩:=named (nM (aI ys));obtain⟨X,hX⟩:=named (dA (aI ys)).2;have EC:=ad (HEE.out a n cap ys w1 A1.out N40.out BD.out V1.out);rw[<- hZ.out,<- hX.out]at EC;go_wp2_with fail;refine EC.out.mono ?_;rintro e w2 ⟨b2,n2,c2,rfl,l2,lc2,lm2,i2,_,bb2⟩;have I2:=ad i2;have L2:=ad l2;have LC2:=ad lc2;have LM2:=ad lm2;have B2:=ad (B1.out.trans (bb2.mono B1.out.size));have V2:=ad (V1.out.go bb2);have M2:=ad (M1.out.below bb2);clear i2 l2 lc2 lm2 bb2 EC;by_cases hx:¬X=0
 ·have nx: (X !=0) =true:=by simpa using hx
  clear hx;go_wp2_with fail;refine(aX w2 HEE.out HDD.out V2.out).mono ?_;rintro e w3 ⟨rfl,b3⟩;have B3:=ad (B2.out.trans (b3.mono B2.out.size));clear b3;go_wp2_with fail;go_ret;exact⟨rfl,B3.out⟩
 obtain rfl:X=0:=Decidable.not_not.mp hx;clear hx;obtain⟨A,hA⟩:=named (iF (aI ys));have GA:Hid (Gd A) :=by show Gd _;rw[hA.out];exact MT hX.out.symm
 have ZA:Hid (Z=cy A) :=by show _=_;rw[hZ.out,hA.out];unfold nM;rw[if_pos hX.out.symm]
 rw[<- hA.out]at AN LBH
 have L1024:Hid (1024<=n2/\n2<=16001024) :=by
  show _/\_;have h1:=L2.out;have h2:=LBH.out;rw[ZA.out]at h1;unfold cy at h1;rw[List.length_append,al]at h1;omega
 obtain⟨k,hk⟩:=named (ct % n2);have KL:Hid (k<n2) :=by show _<_;rw[hk.out];exact Nat.mod_lt _ (by have:=L1024.out;omega)
 have hrem: ((ct:Int)).tmod n2= (k:Int) :=by rw[Int.tmod_eq_emod_of_nonneg (by omega),hk.out];rfl
 have h1024:¬(n2:Int) <1024:=by have:=L1024.out;omega
 have IP:Hid (Inv (Z.take k) 4 (fun B o=> (Z.take k).take o=cq B/\∀x∈B,jS x)) :=uw (A0:=A) (M:= []) (Gd.Pf GA.out) AN.out (by rw[ZA.out,List.append_nil]);have RP:Hid (pO (Z.take k) 4=⟨[],k,5⟩) :=by show _=_;rw[ZA.out];exact Ot GA.out (by have:=KL.out;have h:=L2.out;rw[ZA.out]at h;omega)
 have RC:=ad (HDD.out b2 k c2 (Z.take k) w2 _ (I2.out.take k) (by rw[List.length_take];have:=KL.out;have:=L2.out;omega) (by have:=KL.out;have:=LC2.out;omega) (by have:=KL.out;have:=L1024.out;omega) IP.out V2.out);rw[RP.out]at RC;have hk2:k<=c2:=by have:=KL.out;have:=LC2.out;omega
 clear IP RP hA hX hZ hk;go_wp2_with fail;refine RC.out.mono ?_;rintro e w3 ⟨⟨a3,n3,c3,z3,rfl,ha3,hz3⟩,b3⟩;obtain rfl:n3=0:=Em ha3 hz3;have B3:=ad (B2.out.trans (b3.mono B2.out.size));have V3:=ad (V2.out.go b3);have I3:=ad (I2.out.below b3);have M3:=ad (M2.out.below b3);clear ha3 hz3 b3 RC hrem hw hk2;by_cases h0:mn=0
 ·subst h0;go_wp2_with fail;refine(aX w3 HEE.out HDD.out V3.out).mono ?_;rintro e w4 ⟨rfl,b4⟩;have B4:=ad (B3.out.trans (b4.mono B3.out.size));clear b4;go_wp2_with fail;go_ret;exact⟨rfl,B4.out⟩
 have n0: ((mn:Int) ==0) =false:=by
  have:¬(mn:Int) =0:=by omega
  simpa using this
 have IM:Hid (Inv (Z++ms) 4 (fun B o=> (Z++ms).take o=cq B/\∀x∈B,jS x)) :=uw (A0:=A) (M:=ms) (k:= (Z++ms).length) (Gd.Pf GA.out) AN.out (by rw[ZA.out,List.take_length])
 have RM:Hid (pO (Z++ms) 4=⟨[],n2,18⟩) :=by
  show _=_;have h:=L2.out;rw[ZA.out]at h⊢;rw[zA GA.out (fun c=>h0 (by rw[<- HML.out,c];rfl)),h]
 clear h0;go_wp2_with (first| (refine pK rfl 25 5 rfl Tryz.underlying25 HI1.out ?_;intro w4 h4 b4;have O4:=ad h4;have B4:=ad b4;have I4:=ad (I3.out.below b4);have M4:=ad (M3.out.below b4);clear h4 b4) | (at_builtin;refine iK rfl _ _ 25 rfl w3.heap.size 5 i0 Tryz.underlying25 HI (.slice (some ⟨w3.heap.size,0,none⟩) 0 0) 0 [] rfl O4.out b2 n2 c2 Z rfl I4.out L2.out (by have:=L1024.out;omega) B4.out.size ?_;intro v5 w5 h5 b5;rw[Nat.zero_add,List.nil_append]at h5;obtain⟨a5,c5,rfl,_⟩:=bl h5;have O5:=ad h5;have B5:=ad (B4.out.trans b5);have M5:=ad (M3.out.below (B4.out.trans b5));clear h5 b5) | (at_builtin;refine iK rfl _ _ 25 rfl w3.heap.size 5 i0 Tryz.underlying25 HI (.slice a5 n2 c5) n2 Z rfl O5.out ma mn mc ms rfl M5.out HML.out (by have:=L1024.out;have:=MN.out;omega) B5.out.size ?_;intro v6 w6 h6 b6;obtain⟨a6,c6,rfl,i6,lc6,lm6,l6,_⟩:=bl h6;have I6:=ad i6;have LC6:=ad lc6;have L6:=ad l6;have B6:=ad (B5.out.trans b6);clear h6 b6 i6 lc6 lm6 l6));have V6:=ad (V3.out.go B6.out);have ZL:Hid ((Z++ms).length=n2+mn) :=L6.out
 have MS:Hid (Bytes (Z++ms)) :=by
  show Bytes _;exact Bytes.append (I3.out.bytes) (M3.out.bytes)
 have RC:=ad (HDD.out a6 (n2+mn) c6 (Z++ms) w6 _ (I6.out.bytes MS.out) ZL.out LC6.out (by have:=L1024.out;have:=MN.out;omega) IM.out V6.out);rw[RM.out]at RC;refine RC.out.mono ?_;rintro e w7 ⟨⟨a7,n7,c7,z7,rfl,ha7,hz7⟩,b7⟩;obtain rfl:n7=0:=Em ha7 hz7;have B7:=ad (B3.out.trans ((B6.out.trans (b7.mono B6.out.size)).mono B3.out.size));have V7:=ad (V6.out.go b7);clear ha7 hz7 b7 RC;go_wp2_with fail;refine(aX w7 HEE.out HDD.out V7.out).mono ?_;rintro e w8 ⟨rfl,b8⟩;have B8:=ad (B7.out.trans (b8.mono B7.out.size));clear b8;go_wp2_with fail;go_ret;exact⟨rfl,B8.out⟩
end Go.Proofs.YtcjagakckffkiaaGreatDoor.Arc
namespace Go.Proofs.YtcjagakckffkiaaGreatDoor
open Go.Lib Go.RowKit Go.Proofs.YtcjagakckffkiaaGreatDoor.Fit bL Pnm Tre Flt dO Reb Arc
theorem ic (a:Option Addr)(n cap:Nat)(ys:List aL)(cut:Int)(ma:Option Addr)(mn mc:Nat)(ms:List Int)(w:World)(V:fb w)(ha:br w a n cap ys)(hcut: (Lit.int .u16 cut).wf=true)(hm:aB .u8 w ma mn mc ms) :
 Calls Tryz.prog 7 #[.slice a n cap,.int .u16 cut,.slice ma mn mc] w fun e w'=>e= .returned (.bool true)/\Below w.heap.size w w':=
 Qs gC gG a n cap ys cut ma mn mc ms w (MV.of V) ha hcut hm
end Go.Proofs.YtcjagakckffkiaaGreatDoor
namespace Go.Proofs.YtcjagakckffkiaaGreatDoor.Tre
open Go.RowKit Go.Proofs.YtcjagakckffkiaaGreatDoor.Fit Pnm
def rX (p:Prop)(w:World)(e:Ending)(w':World) :Prop:=∃B:Bool,e= .returned (.bool B)/\ (B=true↔p)/\Below w.heap.size w w'
theorem rX.yes {p:Prop}{w w':World}(h:p)(hb:Below w.heap.size w w') :rX p w (.returned (.bool true)) w':=⟨true,rfl,⟨fun _=>h,fun _=>rfl⟩,hb⟩
theorem rX.no {p:Prop}{w w':World}(h:¬p)(hb:Below w.heap.size w w') :rX p w (.returned (.bool false)) w':=⟨false,rfl,⟨fun h=>absurd h (by decide),fun c=>absurd c h⟩,hb⟩
theorem Pa {l m:List Nd}(hl:l.length=m.length)(h:∀k,k<l.length->nd l k=nd m k) :l=m:=by
 apply List.ext_getElem hl;intro i h1 h2;have:=h i h1
 rwa [cw h1,cw h2]at this
set_option maxRecDepth 100000 in
theorem sZ (a:Option Addr)(n cap:Nat)(ys:List aL)(a':Option Addr)(n' cap':Nat)(zs:List aL)(w:World)(ha:br w a n cap ys)(hb:br w a' n' cap' zs) :
 Calls Tryz.prog 20 #[.slice a n cap,.slice a' n' cap'] w (rX (aI ys=aI zs) w) :=by
 have HA:=ad ha;have HB:=ad hb;have NZ:=ad Bm;have NO:=ad Cm;have hn:n<=maxLen:=Nat.le_trans ha.c ha.m;have LA:Hid ((aI ys).length=n) :=by show _=_;rw[bg];exact ha.n
 have LB:Hid ((aI zs).length=n') :=by show _=_;rw[bg];exact hb.n
 unfold maxLen at hn;clear ha hb;by_cases hnn:n=n'
 ·subst hnn;have ni: ((n:Int) != (n:Int)) =false:=by simp
  go_enter Tryz.func20,Tryz.ntmps20;go_wp2_with fail;go_loopw [5] (fun i wr=>∃j:Nat,i= .int .i64 j/\j<=n/\ (∀k,k<j->nd (aI ys) k=nd (aI zs) k)/\Below w.heap.size w wr) (fun i _=>n- (intOf i).toNat)
  case atStart=>exact⟨0,rfl,Nat.zero_le _,fun k hk=>absurd hk (Nat.not_lt_zero k),aF⟩
  case round=>
   obtain⟨j,rfl,hj,hp,hW⟩:=hrel;have HP:=ad hp;have HW:=ad hW;clear hp hW;by_cases hjn:j<n
   ·obtain⟨b,off,y,rfl,hb,hy,hf,hat⟩:=HA.out.get j hjn;obtain⟨b',off',z,rfl,hb',hz,hf',hat'⟩:=HB.out.get j hjn;obtain⟨c0,c1,c2,c3,c4,c5⟩:= (hat.below HW.out hb).c hy;have ZC:=ad fun(q:World) (hq:Below w.heap.size w q) => (hat'.below hq hb').c hz;have YB:=ad hf.d.bytes;have ZB:=ad hf'.d.bytes;have EY:Hid (nd (aI ys) j=y.n/\nd (aI zs) j=z.n) :=⟨oI hy,oI hz⟩;have NE:Hid (y.n≠z.n->¬aI ys=aI zs) :=fun h e=>h (by rw[<- EY.out.1,<- EY.out.2,e]);clear hat hat' hf hf' hy hz hb hb';obtain⟨⟨k,p,m,t,d,c⟩,x,xc⟩:=y;obtain⟨⟨k',p',m',t',d',c'⟩,x',xc'⟩:=z;obtain⟨L,hL⟩:=named d.length;obtain⟨L',hL'⟩:=named d'.length;have c4':wr.cell? ⟨b,off+j*6+4,none⟩=some (.slice x L xc) :=by rw[hL.out];exact c4
    have cv:Hid (∀q:World,Below w.heap.size w q-> (convert 25 9 (.slice x L xc)).run Tryz.prog q= .ok (.string (strOfNums d)) q) :=fun q hq=>bF Tryz.underlying25 Tryz.underlying5 Tryz.underlying9 (YB.out.below hq) L xc (by rw[hL.out]);have cv':Hid (∀q:World,Below w.heap.size w q-> (convert 25 9 (.slice x' L' xc')).run Tryz.prog q= .ok (.string (strOfNums d')) q) :=fun q hq=>bF Tryz.underlying25 Tryz.underlying5 Tryz.underlying9 (ZB.out.below hq) L' xc' (by rw[hL'.out]);have ZC':Hid (∀q:World,Below w.heap.size w q->q.cell? ⟨b',off'+j*6,none⟩=some (.int .i64 k')/\q.cell? ⟨b',off'+j*6+1,none⟩=some (.string p')/\q.cell? ⟨b',off'+j*6+2,none⟩=some (.int .i64 m')/\q.cell? ⟨b',off'+j*6+3,none⟩=some (.string t')/\q.cell? ⟨b',off'+j*6+4,none⟩=some (.slice x' L' xc')/\q.cell? ⟨b',off'+j*6+5,none⟩=some (.int .i64 c')) :=by rw[hL'.out];exact ZC.out
    have DB:Hid (d=d'↔strOfNums d=strOfNums d') :=by
     show _↔_;constructor
     ·rintro rfl;rfl
     ·intro h;have h1:=av (show Bytes d from YB.out.bytes);rw[h,av (show Bytes d' from ZB.out.bytes)]at h1;exact h1.symm
    obtain⟨S,hS⟩:=named (strOfNums d);obtain⟨S',hS'⟩:=named (strOfNums d');rw[<- hS.out,<- hS'.out]at DB;rw[<- hS.out]at cv;rw[<- hS'.out]at cv';clear c4 hL hL' ZC YB ZB hS hS';have j1: (j:Int) <n:=by omega
    by_cases hk:k=k'
    ·subst hk;have nk: (k !=k) =false:=by simp
     by_cases hp:p=p'
     ·subst hp;have np: (p.toList==p.toList) =true:=beq_self_eq_true _;by_cases hm:m=m'
      ·subst hm;have nm: (m !=m) =false:=by simp
       by_cases ht:t=t'
       ·subst ht;have nt: (t.toList==t.toList) =true:=beq_self_eq_true _;by_cases hc:c=c'
        ·subst hc;have nc: (c !=c) =false:=by simp
         by_cases hS:S=S'
         ·have hd:=DB.out.mpr hS;subst hS;have HD:=ad hd;have nS: (S.toList==S.toList) =true:=beq_self_eq_true _;clear hd DB NE;go_wp2_with (first| (have q3:=G3.out;clear q3;refine ag rfl 77 rfl (bq 0 emp 0 emp none 0 0 0) NZ.out ?_;intro w4 g4 b4;have G4:=ad g4;have K4:=ad (G3.out.below b4 G3.out.lt);have L4:=ad G3.out.lt;have B4:=ad (ar B3.out b4);clear g4 b4 z0 z1 z2 z3 z4 z5) | (refine ag rfl 77 rfl (bq 0 emp 0 emp none 0 0 0) NZ.out ?_;intro w2 g2 b2;have G2:=ad g2;have B2:=ad (ar HW.out b2);clear g2 b2 c0 c1 c2 c3 c4' c5) | (have q4:=G4.out;clear q4;refine ae rfl 77 _ _ rfl w3.heap.size rfl (bq k p m t x' L' xc' c) (bq 0 emp 0 emp none 0 0 0) rfl 77 G4.out NO.out.2 rfl (bE _ _ _ _ _ _ _ _) ?_;intro w5 g5 t5;have K5:=ad (K4.out.aD t5 (Nat.ne_of_lt L4.out));have B5:=ad (B4.out.trans (t5.below B3.out.size));have c0:=K5.out.get 0 rfl;have c1:=K5.out.get 1 rfl;have c2:=K5.out.get 2 rfl;have c3:=K5.out.get 3 rfl;have c4:=K5.out.get 4 rfl;have c5:=K5.out.get 5 rfl;have z0:=g5.get 0 rfl;have z1:=g5.get 1 rfl;have z2:=g5.get 2 rfl;have z3:=g5.get 3 rfl;have z4:=g5.get 4 rfl;have z5:=g5.get 5 rfl;have v1:=cv.out w5 B5.out;have v2:=cv'.out w5 B5.out;clear g5 t5;go_wp2_with fail) | (refine ae rfl 77 _ _ rfl wr.heap.size rfl (bq k p m t x L xc c) (bq 0 emp 0 emp none 0 0 0) rfl 77 G2.out NO.out.2 rfl (bE _ _ _ _ _ _ _ _) ?_;intro w3 g3 t3;have G3:=ad g3;have B3:=ad (B2.out.trans (t3.below HW.out.size));obtain⟨z0,z1,z2,z3,z4,z5⟩:=ZC'.out w3 B3.out;clear g3 t3))
          go_round
          case rel=>exact⟨j+1,by go_num,by omega,fun k'' hk=>by
           by_cases h:k''<j
           ·exact HP.out k'' h
           ·obtain rfl:k''=j:=by omega
            rw[EY.out.1,EY.out.2,HD.out],B5.out⟩
          case measure=>simp[intOf];omega
         ·have nS:=ch hS;have e:=NE.out fun h=>hS (DB.out.mp (congrArg Nd.d h));have HE:=ad e;clear e hS DB NE;go_wp2_with (first| (have q3:=G3.out;clear q3;refine ag rfl 77 rfl (bq 0 emp 0 emp none 0 0 0) NZ.out ?_;intro w4 g4 b4;have G4:=ad g4;have K4:=ad (G3.out.below b4 G3.out.lt);have L4:=ad G3.out.lt;have B4:=ad (ar B3.out b4);clear g4 b4 z0 z1 z2 z3 z4 z5) | (refine ag rfl 77 rfl (bq 0 emp 0 emp none 0 0 0) NZ.out ?_;intro w2 g2 b2;have G2:=ad g2;have B2:=ad (ar HW.out b2);clear g2 b2 c0 c1 c2 c3 c4' c5) | (have q4:=G4.out;clear q4;refine ae rfl 77 _ _ rfl w3.heap.size rfl (bq k p m t x' L' xc' c) (bq 0 emp 0 emp none 0 0 0) rfl 77 G4.out NO.out.2 rfl (bE _ _ _ _ _ _ _ _) ?_;intro w5 g5 t5;have K5:=ad (K4.out.aD t5 (Nat.ne_of_lt L4.out));have B5:=ad (B4.out.trans (t5.below B3.out.size));have c0:=K5.out.get 0 rfl;have c1:=K5.out.get 1 rfl;have c2:=K5.out.get 2 rfl;have c3:=K5.out.get 3 rfl;have c4:=K5.out.get 4 rfl;have c5:=K5.out.get 5 rfl;have z0:=g5.get 0 rfl;have z1:=g5.get 1 rfl;have z2:=g5.get 2 rfl;have z3:=g5.get 3 rfl;have z4:=g5.get 4 rfl;have z5:=g5.get 5 rfl;have v1:=cv.out w5 B5.out;have v2:=cv'.out w5 B5.out;clear g5 t5;go_wp2_with fail) | (refine ae rfl 77 _ _ rfl wr.heap.size rfl (bq k p m t x L xc c) (bq 0 emp 0 emp none 0 0 0) rfl 77 G2.out NO.out.2 rfl (bE _ _ _ _ _ _ _ _) ?_;intro w3 g3 t3;have G3:=ad g3;have B3:=ad (B2.out.trans (t3.below HW.out.size));obtain⟨z0,z1,z2,z3,z4,z5⟩:=ZC'.out w3 B3.out;clear g3 t3));go_ret;exact .no HE.out B5.out
        ·have nc: (c !=c') =true:=by simpa using hc
         have e:=NE.out fun h=>hc (congrArg Nd.c h);have HE:=ad e;clear e hc DB NE;go_wp2_with (first| (have q3:=G3.out;clear q3;refine ag rfl 77 rfl (bq 0 emp 0 emp none 0 0 0) NZ.out ?_;intro w4 g4 b4;have G4:=ad g4;have K4:=ad (G3.out.below b4 G3.out.lt);have L4:=ad G3.out.lt;have B4:=ad (ar B3.out b4);clear g4 b4 z0 z1 z2 z3 z4 z5) | (refine ag rfl 77 rfl (bq 0 emp 0 emp none 0 0 0) NZ.out ?_;intro w2 g2 b2;have G2:=ad g2;have B2:=ad (ar HW.out b2);clear g2 b2 c0 c1 c2 c3 c4' c5) | (have q4:=G4.out;clear q4;refine ae rfl 77 _ _ rfl w3.heap.size rfl (bq k p m t x' L' xc' c') (bq 0 emp 0 emp none 0 0 0) rfl 77 G4.out NO.out.2 rfl (bE _ _ _ _ _ _ _ _) ?_;intro w5 g5 t5;have K5:=ad (K4.out.aD t5 (Nat.ne_of_lt L4.out));have B5:=ad (B4.out.trans (t5.below B3.out.size));have c0:=K5.out.get 0 rfl;have c1:=K5.out.get 1 rfl;have c2:=K5.out.get 2 rfl;have c3:=K5.out.get 3 rfl;have c4:=K5.out.get 4 rfl;have c5:=K5.out.get 5 rfl;have z0:=g5.get 0 rfl;have z1:=g5.get 1 rfl;have z2:=g5.get 2 rfl;have z3:=g5.get 3 rfl;have z4:=g5.get 4 rfl;have z5:=g5.get 5 rfl;have v1:=cv.out w5 B5.out;have v2:=cv'.out w5 B5.out;clear g5 t5;go_wp2_with fail) | (refine ae rfl 77 _ _ rfl wr.heap.size rfl (bq k p m t x L xc c) (bq 0 emp 0 emp none 0 0 0) rfl 77 G2.out NO.out.2 rfl (bE _ _ _ _ _ _ _ _) ?_;intro w3 g3 t3;have G3:=ad g3;have B3:=ad (B2.out.trans (t3.below HW.out.size));obtain⟨z0,z1,z2,z3,z4,z5⟩:=ZC'.out w3 B3.out;clear g3 t3));go_ret;exact .no HE.out B5.out
       ·have nt:=ch ht;have e:=NE.out fun h=>ht (congrArg Nd.t h);have HE:=ad e;clear e ht DB NE;go_wp2_with (first| (have q3:=G3.out;clear q3;refine ag rfl 77 rfl (bq 0 emp 0 emp none 0 0 0) NZ.out ?_;intro w4 g4 b4;have G4:=ad g4;have K4:=ad (G3.out.below b4 G3.out.lt);have L4:=ad G3.out.lt;have B4:=ad (ar B3.out b4);clear g4 b4 z0 z1 z2 z3 z4 z5) | (refine ag rfl 77 rfl (bq 0 emp 0 emp none 0 0 0) NZ.out ?_;intro w2 g2 b2;have G2:=ad g2;have B2:=ad (ar HW.out b2);clear g2 b2 c0 c1 c2 c3 c4' c5) | (have q4:=G4.out;clear q4;refine ae rfl 77 _ _ rfl w3.heap.size rfl (bq k p m t' x' L' xc' c') (bq 0 emp 0 emp none 0 0 0) rfl 77 G4.out NO.out.2 rfl (bE _ _ _ _ _ _ _ _) ?_;intro w5 g5 t5;have K5:=ad (K4.out.aD t5 (Nat.ne_of_lt L4.out));have B5:=ad (B4.out.trans (t5.below B3.out.size));have c0:=K5.out.get 0 rfl;have c1:=K5.out.get 1 rfl;have c2:=K5.out.get 2 rfl;have c3:=K5.out.get 3 rfl;have c4:=K5.out.get 4 rfl;have c5:=K5.out.get 5 rfl;have z0:=g5.get 0 rfl;have z1:=g5.get 1 rfl;have z2:=g5.get 2 rfl;have z3:=g5.get 3 rfl;have z4:=g5.get 4 rfl;have z5:=g5.get 5 rfl;have v1:=cv.out w5 B5.out;have v2:=cv'.out w5 B5.out;clear g5 t5;go_wp2_with fail) | (refine ae rfl 77 _ _ rfl wr.heap.size rfl (bq k p m t x L xc c) (bq 0 emp 0 emp none 0 0 0) rfl 77 G2.out NO.out.2 rfl (bE _ _ _ _ _ _ _ _) ?_;intro w3 g3 t3;have G3:=ad g3;have B3:=ad (B2.out.trans (t3.below HW.out.size));obtain⟨z0,z1,z2,z3,z4,z5⟩:=ZC'.out w3 B3.out;clear g3 t3));go_ret;exact .no HE.out B5.out
      ·have nm: (m !=m') =true:=by simpa using hm
       have e:=NE.out fun h=>hm (congrArg Nd.m h);have HE:=ad e;clear e hm DB NE;go_wp2_with (first| (have q3:=G3.out;clear q3;refine ag rfl 77 rfl (bq 0 emp 0 emp none 0 0 0) NZ.out ?_;intro w4 g4 b4;have G4:=ad g4;have K4:=ad (G3.out.below b4 G3.out.lt);have L4:=ad G3.out.lt;have B4:=ad (ar B3.out b4);clear g4 b4 z0 z1 z2 z3 z4 z5) | (refine ag rfl 77 rfl (bq 0 emp 0 emp none 0 0 0) NZ.out ?_;intro w2 g2 b2;have G2:=ad g2;have B2:=ad (ar HW.out b2);clear g2 b2 c0 c1 c2 c3 c4' c5) | (have q4:=G4.out;clear q4;refine ae rfl 77 _ _ rfl w3.heap.size rfl (bq k p m' t' x' L' xc' c') (bq 0 emp 0 emp none 0 0 0) rfl 77 G4.out NO.out.2 rfl (bE _ _ _ _ _ _ _ _) ?_;intro w5 g5 t5;have K5:=ad (K4.out.aD t5 (Nat.ne_of_lt L4.out));have B5:=ad (B4.out.trans (t5.below B3.out.size));have c0:=K5.out.get 0 rfl;have c1:=K5.out.get 1 rfl;have c2:=K5.out.get 2 rfl;have c3:=K5.out.get 3 rfl;have c4:=K5.out.get 4 rfl;have c5:=K5.out.get 5 rfl;have z0:=g5.get 0 rfl;have z1:=g5.get 1 rfl;have z2:=g5.get 2 rfl;have z3:=g5.get 3 rfl;have z4:=g5.get 4 rfl;have z5:=g5.get 5 rfl;have v1:=cv.out w5 B5.out;have v2:=cv'.out w5 B5.out;clear g5 t5;go_wp2_with fail) | (refine ae rfl 77 _ _ rfl wr.heap.size rfl (bq k p m t x L xc c) (bq 0 emp 0 emp none 0 0 0) rfl 77 G2.out NO.out.2 rfl (bE _ _ _ _ _ _ _ _) ?_;intro w3 g3 t3;have G3:=ad g3;have B3:=ad (B2.out.trans (t3.below HW.out.size));obtain⟨z0,z1,z2,z3,z4,z5⟩:=ZC'.out w3 B3.out;clear g3 t3));go_ret;exact .no HE.out B5.out
     ·have np:=ch hp;have e:=NE.out fun h=>hp (congrArg Nd.p h);have HE:=ad e;clear e hp DB NE;go_wp2_with (first| (have q3:=G3.out;clear q3;refine ag rfl 77 rfl (bq 0 emp 0 emp none 0 0 0) NZ.out ?_;intro w4 g4 b4;have G4:=ad g4;have K4:=ad (G3.out.below b4 G3.out.lt);have L4:=ad G3.out.lt;have B4:=ad (ar B3.out b4);clear g4 b4 z0 z1 z2 z3 z4 z5) | (refine ag rfl 77 rfl (bq 0 emp 0 emp none 0 0 0) NZ.out ?_;intro w2 g2 b2;have G2:=ad g2;have B2:=ad (ar HW.out b2);clear g2 b2 c0 c1 c2 c3 c4' c5) | (have q4:=G4.out;clear q4;refine ae rfl 77 _ _ rfl w3.heap.size rfl (bq k p' m' t' x' L' xc' c') (bq 0 emp 0 emp none 0 0 0) rfl 77 G4.out NO.out.2 rfl (bE _ _ _ _ _ _ _ _) ?_;intro w5 g5 t5;have K5:=ad (K4.out.aD t5 (Nat.ne_of_lt L4.out));have B5:=ad (B4.out.trans (t5.below B3.out.size));have c0:=K5.out.get 0 rfl;have c1:=K5.out.get 1 rfl;have c2:=K5.out.get 2 rfl;have c3:=K5.out.get 3 rfl;have c4:=K5.out.get 4 rfl;have c5:=K5.out.get 5 rfl;have z0:=g5.get 0 rfl;have z1:=g5.get 1 rfl;have z2:=g5.get 2 rfl;have z3:=g5.get 3 rfl;have z4:=g5.get 4 rfl;have z5:=g5.get 5 rfl;have v1:=cv.out w5 B5.out;have v2:=cv'.out w5 B5.out;clear g5 t5;go_wp2_with fail) | (refine ae rfl 77 _ _ rfl wr.heap.size rfl (bq k p m t x L xc c) (bq 0 emp 0 emp none 0 0 0) rfl 77 G2.out NO.out.2 rfl (bE _ _ _ _ _ _ _ _) ?_;intro w3 g3 t3;have G3:=ad g3;have B3:=ad (B2.out.trans (t3.below HW.out.size));obtain⟨z0,z1,z2,z3,z4,z5⟩:=ZC'.out w3 B3.out;clear g3 t3));go_ret;exact .no HE.out B5.out
    ·have nk: (k !=k') =true:=by simpa using hk
     have e:=NE.out fun h=>hk (congrArg Nd.k h);have HE:=ad e;clear e hk DB NE;go_wp2_with (first| (have q3:=G3.out;clear q3;refine ag rfl 77 rfl (bq 0 emp 0 emp none 0 0 0) NZ.out ?_;intro w4 g4 b4;have G4:=ad g4;have K4:=ad (G3.out.below b4 G3.out.lt);have L4:=ad G3.out.lt;have B4:=ad (ar B3.out b4);clear g4 b4 z0 z1 z2 z3 z4 z5) | (refine ag rfl 77 rfl (bq 0 emp 0 emp none 0 0 0) NZ.out ?_;intro w2 g2 b2;have G2:=ad g2;have B2:=ad (ar HW.out b2);clear g2 b2 c0 c1 c2 c3 c4' c5) | (have q4:=G4.out;clear q4;refine ae rfl 77 _ _ rfl w3.heap.size rfl (bq k' p' m' t' x' L' xc' c') (bq 0 emp 0 emp none 0 0 0) rfl 77 G4.out NO.out.2 rfl (bE _ _ _ _ _ _ _ _) ?_;intro w5 g5 t5;have K5:=ad (K4.out.aD t5 (Nat.ne_of_lt L4.out));have B5:=ad (B4.out.trans (t5.below B3.out.size));have c0:=K5.out.get 0 rfl;have c1:=K5.out.get 1 rfl;have c2:=K5.out.get 2 rfl;have c3:=K5.out.get 3 rfl;have c4:=K5.out.get 4 rfl;have c5:=K5.out.get 5 rfl;have z0:=g5.get 0 rfl;have z1:=g5.get 1 rfl;have z2:=g5.get 2 rfl;have z3:=g5.get 3 rfl;have z4:=g5.get 4 rfl;have z5:=g5.get 5 rfl;have v1:=cv.out w5 B5.out;have v2:=cv'.out w5 B5.out;clear g5 t5;go_wp2_with fail) | (refine ae rfl 77 _ _ rfl wr.heap.size rfl (bq k p m t x L xc c) (bq 0 emp 0 emp none 0 0 0) rfl 77 G2.out NO.out.2 rfl (bE _ _ _ _ _ _ _ _) ?_;intro w3 g3 t3;have G3:=ad g3;have B3:=ad (B2.out.trans (t3.below HW.out.size));obtain⟨z0,z1,z2,z3,z4,z5⟩:=ZC'.out w3 B3.out;clear g3 t3));go_ret;exact .no HE.out B5.out
   ·obtain rfl:j=n:=by omega
    go_wp2;go_ret;exact .yes (Pa (by rw[LA.out,LB.out]) fun k hk=>HP.out k (by rw[<- LA.out];exact hk)) HW.out
 ·have ni: ((n:Int) != (n':Int)) =true:=by simp;omega
  go_enter Tryz.func20,Tryz.ntmps20;go_wp2_with fail;go_ret;exact .no (fun h=>hnn (by rw[<- LA.out,<- LB.out,h])) aF
end Go.Proofs.YtcjagakckffkiaaGreatDoor.Tre
