import Derived.Test.YtcjagakckffkiaaGreatDoorQ16
import Derived.Test.YtcjagakckffkiaaGreatDoorQ9
import Derived.Test.YtcjagakckffkiaaGreatDoorQ1
import Derived.Test.YtcjagakckffkiaaGreatDoorQ15
import Derived.Test.YtcjagakckffkiaaGreatDoorQ5
import Derived.Deep.DeepCutAuto
import Derived.Lib.AppendStr
import Derived.Deep.RegionHeld3
import Derived.BigQuiet
set_option maxHeartbeats 16000000
namespace Go.Proofs.YtcjagakckffkiaaGreatDoor
open Go.RowKit
theorem eJ.dropped {k:IntKind}{w:World}{g c:Nat}{zs:List Int}(h:eJ k w (some ⟨g,0,none⟩) zs)(s:Nat)(hc:zs.length<=c) :eJ k w (if c=s then some ⟨g,0,none⟩else some ⟨g,s,none⟩) (zs.drop s) :=by
 rcases Nat.lt_or_ge s zs.length with hs|hs
 ·rw[if_neg (by omega)];refine .inr ⟨g,s,rfl,?_,fun i hi=>?_⟩
  ·obtain⟨b,off,h1,h2⟩:=h.plain (by omega)
   cases h1;exact h2
  ·rw[List.length_drop]at hi;have:=h.get (s+i) (by omega);rw[Nat.zero_add]at this;rw[this,List.getD_eq_getElem?_getD,List.getD_eq_getElem?_getD,List.getElem?_drop]
 ·exact .inl (List.drop_eq_nil_of_le hs)
theorem eJ.taken {k:IntKind}{w:World}{a:Option Addr}{zs:List Int}(h:eJ k w a zs)(n:Nat) :eJ k w a (zs.take n) :=by
 rcases h with h|⟨b,off,h1,h2,h3⟩
 ·rw[h];exact .inl (by simp)
 ·refine .inr ⟨b,off,h1,h2,fun i hi=>?_⟩;rw[List.length_take]at hi;rw[h3 i (by omega),List.getD_eq_getElem?_getD,List.getD_eq_getElem?_getD,List.getElem?_take,if_pos (by omega)]
theorem Bw {lo hi q:Nat}{Z:List Int}{E:Int}{o:Nat}{err:Int}(z:Int)(w:World)(h:eH w lo hi q Z E o err)(hz:dm z) :
 Calls Tryz.prog 33 #[.pointer (some ⟨q,0,none⟩),.int .i64 z] w fun e w'=>e= .returned (.tuple #[.slice none 0 0,.int .i64 o,.int .i64 3])/\w=w':=by
 by_cases h0:z<0
 ·go_enter Tryz.func33,Tryz.ntmps33;go_wp2_with fail;refine(cW w h).mono ?_;rintro e w2 ⟨rfl,rfl⟩;go_wp2_with fail;go_ret3;exact⟨rfl,rfl⟩
 ·have h1:1099511627776<z:=hz.resolve_left h0;go_enter Tryz.func33,Tryz.ntmps33;go_wp2_with fail;refine(cW w h).mono ?_;rintro e w2 ⟨rfl,rfl⟩;go_wp2_with fail;go_ret3;exact⟨rfl,rfl⟩
def Pu (D:List Int)(p e:Int)(B:Nat)(x:Ending)(w':World) :Prop:=∃b c,x= .returned (.tuple #[.slice b D.length c,.int .i64 p,.int .i64 e])/\D.length<=c/\eJ .u8 w' b D/\ (∀x,b=some x->B<=x.block)/\c<=maxLen
set_option maxRecDepth 100000 in
theorem iJ {lo hi q:Nat}{Z:List Int}{E:Int}{o:Nat}{err:Int}(z:Int)(w:World)(h:eH w lo hi q Z E o err)(hE:E=11\/E=4) :
 Calls Tryz.prog 33 #[.pointer (some ⟨q,0,none⟩),.int .i64 z] w fun e w'=>Pu (gw Z o err z) (mw Z o err z) (eO Z E o err z) w.heap.size e w'/\eH w' lo hi q Z E (jQ Z o err z) (nP Z E o err z)/\Out lo hi w w':=by
 by_cases hb:dm z
 ·obtain⟨e1,e2,e3,e4,e5⟩:=lK (Z:=Z) (E:=E) (o:=o) (err:=err) hb;rw[e1,e2,e3,e4,e5];refine(Bw z w h hb).mono ?_;rintro e w' ⟨rfl,rfl⟩;exact⟨⟨none,0,rfl,ah,.inl rfl,(fun x hx=>by cases hx),Nat.zero_le _⟩,h,.refl _ _ _⟩
 ·obtain⟨s,rfl⟩:∃s:Nat,z=s:=⟨z.toNat,by unfold dm at hb;omega⟩;have hs:s<=1099511627776:=by unfold dm at hb;omega
  have hs': (s:Int)<=1099511627776:=by omega
  have HZ:=ad h.bd;have HS:=ad h.size;have H:=ad h;have HE:=ad hE;have hnb:=Ju hs;obtain⟨n,hn⟩:=named (aZ s);have en:aZ (s:Int).toNat=n:=hn.out.symm;by_cases hok:dM Z o err n
  ·obtain⟨p1,p2,p3,p4⟩:=zB (E:=E) hok;obtain⟨D,hD⟩:=named (512*n);rw[<- hD.out]at p2 p4;obtain⟨pl,xl⟩:=iS (s:=s) (by rw[<- hn.out];exact hok);rw[<- hn.out,<- hD.out]at pl xl;have hsD:s<=D:=by rw[hD.out,hn.out];exact ny s
   obtain⟨X,hX⟩:=named ((Z.drop o).take D);have hpad:bj Z o s=X.drop s:=by unfold bj;rw[hX.out,<- hn.out,<- hD.out]
   have hdat: (Z.drop o).take s=X.take s:=by rw[hX.out,List.take_take,Nat.min_eq_left hsD]
   rw[<- hX.out]at p4 xl;have XLN:=ad xl;have HPD:=ad hpad;have HDT:=ad hdat;have XL:Hid ((X.take s).length=s) :=by show _=_;rw[List.length_take,xl];omega
   have HQ:Hid (jY Z E o err n=0/\rJ Z o err n=o+D/\Ig Z E o err n=err/\JH Z o err n=X) :=⟨p1,p2,p3,p4⟩
   have oD: (o:Int) +D<=140737488355328\/D=0:=by
    rcases hok with h0|h0
    ·right;have:=hD.out;omega
    ·left;have:=HZ.out.1;have:=hD.out;omega
   have hoD: (o:Int) +D<=140737488355328:=by have:=HZ.out.1;have:=HS.out.2.2.2;omega
   have HSD:=ad hsD;by_cases hi:gx (bj Z o s) < (bj Z o s).length
   ·obtain⟨e1,e2,e3,e4,e5⟩:=gM (E:=E) hs hn.out hok hi;have P1:=ad e1;have P2:=ad e2;have P3:=ad e3;have P4:=ad e4;have P5:=ad e5;rw[<- hD.out]at e4;have P4:=ad e4;obtain⟨k,hk⟩:=named (gx (bj Z o s));rw[<- hk.out]at e2 hi;rw[pl]at hi;have P2:=ad e2;have HK:=ad hi;have hsD':s<D:=by omega
    clear e1 e2 e3 e4 e5 p1 p2 p3 p4 hok hb h hE hpad hdat pl xl hi;go_enter Tryz.func33,Tryz.ntmps33;go_wp2_with fail;refine(fC (s:Int) (by omega) w).mono ?_;rintro e w0 ⟨rfl,rfl⟩;rw[en];go_wp2_with fail;refine(mW n w H.out HE.out (by have:=hn.out;omega)).mono ?_;rintro e w1 ⟨v,rfl,o1,r1,u1⟩;rw[HQ.out.2.2.2,XLN.out]at o1;rw[HQ.out.2.1,HQ.out.2.2.1]at r1;rw[HQ.out.1];have R1:=ad r1;have U1:=ad u1;have O1:=ad o1;obtain⟨g,c,rfl,hg⟩:=sP o1 (by omega);obtain⟨_,_,hv,i1,hc,_⟩:=bl o1;simp only[Value.slice.injEq,true_and]at hv;obtain⟨rfl,rfl⟩:=hv;have I1:=ad i1;have HC:=ad hc;have hcs:¬c=s:=by omega
    have hDs: (s:Int)<=D:=by omega
    clear o1 r1 u1 i1;go_wp2_with fail;have ID:=ad (I1.out.dropped s (by rw[XLN.out];exact HC.out));rw[if_neg hcs]at ID;have EX: (X.drop s).length=D- s:=by rw[List.length_drop,XLN.out]
    have EK: (if gx (X.drop s) <D- s then(gx (X.drop s) :Int)else-1) = (k:Int) :=by rw[<- HPD.out,<- hk.out,if_pos HK.out]
    refine(qg _ _ _ (X.drop s) w1 ID.out EX (by omega)).mono ?_;rintro e w2 ⟨rfl,rfl⟩;rw[EK];have hk1: (k:Int) < (D:Int) - s:=by have:=HK.out;omega
    clear EX EK;go_wp2_with fail;refine(cW w1 R1.out).mono ?_;rintro e w2 ⟨rfl,rfl⟩;go_wp2_with fail;go_ret3;rw[P1.out,P2.out,P3.out,P4.out,P5.out,show(o:Int) +D- (((D- s:Nat) :Int) - k) = ((o+ (s+k) :Nat) :Int) by have:=HSD.out;have:=HK.out;omega];exact⟨⟨none,0,rfl,ah,.inl rfl,(fun x hx=>by cases hx),Nat.zero_le _⟩,R1.out,U1.out⟩
   ·obtain⟨e1,e2,e3,e4,e5⟩:=jN (E:=E) hs hn.out hok hi;have P1:=ad e1;have P5:=ad e5;rw[<- hD.out]at e2 e4;rw[hdat]at e3;have P2:=ad e2;have P3:=ad e3;have P4:=ad e4;rw[pl]at hi;have HI:=ad hi;clear e1 e2 e3 e4 e5 p1 p2 p3 p4 hok hb h hE hpad hdat pl xl hi;go_enter Tryz.func33,Tryz.ntmps33;go_wp2_with fail;refine(fC (s:Int) (by omega) w).mono ?_;rintro e w0 ⟨rfl,rfl⟩;rw[en];go_wp2_with fail;refine(mW n w H.out HE.out (by have:=hn.out;omega)).mono ?_;rintro e w1 ⟨v,rfl,o1,r1,u1⟩;rw[HQ.out.2.2.2,XLN.out]at o1;rw[HQ.out.2.1,HQ.out.2.2.1]at r1;rw[HQ.out.1];have R1:=ad r1;have U1:=ad u1;have O1:=ad o1;obtain⟨b1,c1,hv1,i1,hc1,hcm1,_,x1⟩:=bl o1;have HX1:=ad x1;clear r1 u1 x1;rcases o1.2 with⟨rfl,h0⟩|⟨g,c,cur,rfl,hg,_⟩
    ·obtain rfl:D=0:=h0;obtain rfl:s=0:=by omega
     clear o1 i1 hv1 hcm1;go_wp2_with fail;refine(qg none 0 0 [] w1 (.inl rfl) rfl (by decide)).mono ?_;rintro e w2 ⟨rfl,rfl⟩;have EK: (if gx ([] :List Int) <0 then(gx ([] :List Int) :Int)else-1) = -1:=if_neg (Nat.not_lt_zero _);rw[EK];go_wp2_with fail;refine wp_region_held_drew (S:= (fun _=>True)) (by kernel_rfl) (trivial) (fun hHeld=>?_);refine aJ 0 (h:=aJ 1 (h:=aJ 2 (h:=aJ 3 (h:=?_))));simp only[Act.put,bB,bC,bD];refine rd 4 fun K hK=>?_;go_simp;refine(cW w1.drew (R1.out.below aF.drew)).mono ?_;rintro e w2 ⟨rfl,rfl⟩;go_wp2_with fail;refine hK.out _ _ (trivial) (fun hHeld=>?_);clear hK K
     (try simp only[Act.put,bB,bC,bD])
     refine aJ 5 (h:=aJ 6 (h:=aJ 7 (h:=?_)));simp only[Act.put,bB,bC,bD];refine wpAnyH_done (by kernel_rfl) ?_ _;go_wp2_with fail;go_ret3;rw[P1.out,P2.out,P3.out,P4.out,P5.out,List.take_zero];exact⟨⟨none,0,rfl,ah,.inl rfl,(fun x hx=>by cases hx),Nat.zero_le _⟩,R1.out.below aF.drew,U1.out.drew⟩
    ·simp only[Value.slice.injEq,true_and]at hv1;obtain⟨rfl,rfl⟩:=hv1;have I1:=ad i1;have HC:=ad hc1;have HCM:=ad hcm1;clear hcm1;have hDs: (s:Int)<=D:=by omega
     have hsc: (s:Int)<=c:=by omega
     clear o1 i1;have ID:=ad (I1.out.dropped s (by rw[XLN.out];exact HC.out));have EX: (X.drop s).length=D- s:=by rw[List.length_drop,XLN.out]
     have EK: (if gx (X.drop s) <D- s then(gx (X.drop s) :Int)else-1) = -1:=by rw[<- HPD.out,if_neg HI.out]
     by_cases hcs:c=s
     ·rw[if_pos hcs]at ID;go_wp2_with fail;refine(qg _ _ _ (X.drop s) w1 ID.out EX (by omega)).mono ?_;rintro e w2 ⟨rfl,rfl⟩;rw[EK];clear EX EK;go_wp2_with fail;refine wp_region_held_drew (S:= (fun _=>True)) (by kernel_rfl) (trivial) (fun hHeld=>?_);refine aJ 0 (h:=aJ 1 (h:=aJ 2 (h:=aJ 3 (h:=?_))));simp only[Act.put,bB,bC,bD];refine rd 4 fun K hK=>?_;go_simp;refine(cW w1.drew (R1.out.below aF.drew)).mono ?_;rintro e w2 ⟨rfl,rfl⟩;go_wp2_with fail;refine hK.out _ _ (trivial) (fun hHeld=>?_);clear hK K
      (try simp only[Act.put,bB,bC,bD])
      refine aJ 5 (h:=aJ 6 (h:=aJ 7 (h:=?_)));simp only[Act.put,bB,bC,bD];refine wpAnyH_done (by kernel_rfl) ?_ _;go_wp2_with fail;go_ret3;rw[P1.out,P2.out,P3.out,P4.out,P5.out];exact⟨⟨some ⟨g,0,none⟩,c,by rw[XL.out];first|rfl| (simp;done) | (simp;omega),by rw[XL.out];omega,(I1.out.below aF.drew).taken s,fun x hx=> (HX1.out x hx).1,HCM.out⟩,R1.out.below aF.drew,U1.out.drew⟩
     ·rw[if_neg hcs]at ID;go_wp2_with fail;refine(qg _ _ _ (X.drop s) w1 ID.out EX (by omega)).mono ?_;rintro e w2 ⟨rfl,rfl⟩;rw[EK];clear EX EK;go_wp2_with fail;refine wp_region_held_drew (S:= (fun _=>True)) (by kernel_rfl) (trivial) (fun hHeld=>?_);refine aJ 0 (h:=aJ 1 (h:=aJ 2 (h:=aJ 3 (h:=?_))));simp only[Act.put,bB,bC,bD];refine rd 4 fun K hK=>?_;go_simp;refine(cW w1.drew (R1.out.below aF.drew)).mono ?_;rintro e w2 ⟨rfl,rfl⟩;go_wp2_with fail;refine hK.out _ _ (trivial) (fun hHeld=>?_);clear hK K
      (try simp only[Act.put,bB,bC,bD])
      refine aJ 5 (h:=aJ 6 (h:=aJ 7 (h:=?_)));simp only[Act.put,bB,bC,bD];refine wpAnyH_done (by kernel_rfl) ?_ _;go_wp2_with fail;go_ret3;rw[P1.out,P2.out,P3.out,P4.out,P5.out];exact⟨⟨some ⟨g,0,none⟩,c,by rw[XL.out];first|rfl| (simp;done) | (simp;omega),by rw[XL.out];omega,(I1.out.below aF.drew).taken s,fun x hx=> (HX1.out x hx).1,HCM.out⟩,R1.out.below aF.drew,U1.out.drew⟩
  ·obtain⟨e1,e2,e3,e4,e5⟩:=jM (E:=E) hs hn.out hok;have hne:=ry (E:=E) hE hok;obtain⟨V,hV⟩:=named (jY Z E o err n);rw[<- hV.out]at e1 hne;have P1:=ad e1;have P2:=ad e2;have P3:=ad e3;have P4:=ad e4;have P5:=ad e5;have hne0: (V==0) =false:=by simp[hne]
   obtain⟨O,hO⟩:=named (rJ Z o err n);rw[<- hO.out]at e2 e4;have P2:=ad e2;have P4:=ad e4;clear e1 e2 e3 e4 e5 hok hb h hE;by_cases h4:V=4
   ·have h4': (V==4) =true:=by simp[h4]
    have P1':Hid (eO Z E o err s=5) :=by show _=_;rw[P1.out,if_pos h4]
    clear h4 hne;go_enter Tryz.func33,Tryz.ntmps33;go_wp2_with fail;refine(fC (s:Int) (by omega) w).mono ?_;rintro e w0 ⟨rfl,rfl⟩;rw[en];go_wp2_with fail;refine(mW n w H.out HE.out (by have:=hn.out;omega)).mono ?_;rintro e w1 ⟨v,rfl,o1,r1,u1⟩;rw[<- hO.out]at r1;rw[<- hV.out];have R1:=ad r1;have U1:=ad u1;clear o1 r1 u1;go_wp2_with fail;refine(cW w1 R1.out).mono ?_;rintro e w2 ⟨rfl,rfl⟩;go_wp2_with fail;go_ret3;rw[P1'.out,P2.out,P3.out,P4.out,P5.out];exact⟨⟨none,0,rfl,ah,.inl rfl,(fun x hx=>by cases hx),Nat.zero_le _⟩,R1.out,U1.out⟩
   ·have h4': (V==4) =false:=by simp[h4]
    have P1':Hid (eO Z E o err s=V) :=by show _=_;rw[P1.out,if_neg h4]
    clear h4 hne;go_enter Tryz.func33,Tryz.ntmps33;go_wp2_with fail;refine(fC (s:Int) (by omega) w).mono ?_;rintro e w0 ⟨rfl,rfl⟩;rw[en];go_wp2_with fail;refine(mW n w H.out HE.out (by have:=hn.out;omega)).mono ?_;rintro e w1 ⟨v,rfl,o1,r1,u1⟩;rw[<- hO.out]at r1;rw[<- hV.out];have R1:=ad r1;have U1:=ad u1;clear o1 r1 u1;go_wp2_with fail;refine(cW w1 R1.out).mono ?_;rintro e w2 ⟨rfl,rfl⟩;go_wp2_with fail;go_ret3;rw[P1'.out,P2.out,P3.out,P4.out,P5.out];exact⟨⟨none,0,rfl,ah,.inl rfl,(fun x hx=>by cases hx),Nat.zero_le _⟩,R1.out,U1.out⟩
end Go.Proofs.YtcjagakckffkiaaGreatDoor
namespace Go.Proofs.YtcjagakckffkiaaGreatDoor
open Go.RowKit
def Ref (w:World)(lo hi m:Nat)(zs:List Int)(F:Int)(cs:List Int)(o r:Nat) :Prop:=
 ∃da dc sa sc,ak w m 108 [.slice da zs.length dc,.slice sa cs.length sc,.int .i64 F,.int .i64 o,.int .i64 r]/\BytesIn w da zs/\zs.length<=dc/\eJ .i64 w sa cs/\cs.length<=1000/\zs.length<=100000000/\
  (lo<=m/\m<hi/\hi<=w.heap.size)/\ (∀x,da=some x->lo<=x.block/\x.block<hi/\x.block≠m)/\ (∀x,sa=some x->lo<=x.block/\x.block<hi/\x.block≠m)/\r<=o
theorem Ref.size {w:World}{lo hi m:Nat}{zs cs:List Int}{F:Int}{o r:Nat}(h:Ref w lo hi m zs F cs o r) :hi<=w.heap.size/\lo<=m/\m<hi:=by
 obtain⟨_,_,_,_,_,_,_,_,_,_,h7,_⟩:=h;exact⟨h7.2.2,h7.1,h7.2.1⟩
theorem Ref.step {w w3:World}{lo hi m:Nat}{zs cs:List Int}{F:Int}{o r:Nat}(h:Ref w lo hi m zs F cs o r)(hb:Below w.heap.size w w3)(e k:Nat)(he:e=o+k)(hk:1<=k) :
 Ref ((w3.setCell ⟨m,3,none⟩ (.int .i64 e)).setCell ⟨m,4,none⟩ (.int .i64 (r+1))) lo hi m zs F cs (o+k) (r+1)/\Out lo hi w ((w3.setCell ⟨m,3,none⟩ (.int .i64 e)).setCell ⟨m,4,none⟩ (.int .i64 (r+1)))/\
 ∀b ys,eJ .u8 w3 b ys-> (∀x,b=some x->w.heap.size<=x.block)->eJ .u8 ((w3.setCell ⟨m,3,none⟩ (.int .i64 e)).setCell ⟨m,4,none⟩ (.int .i64 (r+1))) b ys:=by
 obtain⟨da,dc,sa,sc,h1,h2,h3,h4,h5,h6,h7,h8,h9,h10⟩:=h;subst he;have hlt:=h1.lt;have hs:=hb.size;refine⟨⟨da,dc,sa,sc,((h1.below hb hlt).set 3 _).set 4 _,((h2.below hb).set _ (fun x hx=> (h8 x hx).2.2)).set _ (fun x hx=> (h8 x hx).2.2),h3,((h4.below hb).set _ (fun x hx=> (h9 x hx).2.2)).set _ (fun x hx=> (h9 x hx).2.2),h5,h6,?_,h8,h9,by omega⟩,?_,?_⟩
 ·simp[World.setCell];omega
 ·exact((Out.aq hb ah).setCell (by show lo<=m;omega) (by show m<hi;omega) _).setCell (by show lo<=m;omega) (by show m<hi;omega) _
 ·intro b ys hk hx;exact(hk.set _ (fun x e=>by have:=hx x e;omega)).set _ (fun x e=>by have:=hx x e;omega)
end Go.Proofs.YtcjagakckffkiaaGreatDoor
namespace Go.Proofs.YtcjagakckffkiaaGreatDoor
open Go.RowKit
def Qj (w:World)(lo hi q:Nat)(Z:List Int)(E:Int)(o:Nat)(err:Int) :Prop:=
 ∃m h1 zs F cs r,ak w q 95 [.pointer (some ⟨m,0,none⟩),.int .i64 o,.int .i64 err]/\Ref w lo h1 m zs F cs o r/\lo<=h1/\h1<=q/\q<hi/\hi<=w.heap.size/\
  Z=zs.take (sy F zs.length)/\E=oV F zs.length/\o<=Z.length
theorem Qj.size {w:World}{lo hi q:Nat}{Z:List Int}{E:Int}{o:Nat}{err:Int}(h:Qj w lo hi q Z E o err) :hi<=w.heap.size/\lo<=q/\q<hi/\o<=Z.length:=by
 obtain⟨_,_,_,_,_,_,_,_,k3,k4,k5,k6,_,_,k7⟩:=h;exact⟨k6,by omega,k5,k7⟩
end Go.Proofs.YtcjagakckffkiaaGreatDoor
namespace Go.Proofs.YtcjagakckffkiaaGreatDoor
open Go.RowKit
theorem Qj.en {w:World}{lo hi q:Nat}{Z:List Int}{E:Int}{o:Nat}{err:Int}(h:Qj w lo hi q Z E o err) : (E=11\/E=4)/\Z.length<=100000000:=by
 obtain⟨m,h1,zs,F,cs,r,k1,k2,k3,k4,k5,k6,k7,k8,k9⟩:=h;refine⟨by rw[k8];exact Lj _ _,?_⟩;obtain⟨_,_,_,_,_,_,_,_,_,q6,_⟩:=k2;rw[k7,List.length_take];omega
end Go.Proofs.YtcjagakckffkiaaGreatDoor
namespace Go.Proofs.YtcjagakckffkiaaGreatDoor
open Go.RowKit Go.Lib
theorem sH (s:ByteArray) :strCells s= (af s).map (.int .u8) :=by
 unfold strCells;rw[cm,List.map_map];rfl
theorem rV {w:World}{base n size:Nat}{e:TypeId}{v:Value}{xs:List Value}(h:w.ownsRow base e size v n xs) :∀k,v.ownBlock=some k->base<=k/\k<w.heap.size:=by
 intro k hk;rcases h.2 with⟨h',_⟩|⟨g',cap',cur,hv,hb',hh,_⟩
 ·rw[h']at hk;cases hk
 ·rw[hv]at hk;obtain rfl:g'=k:=by simpa [Value.ownBlock]using hk
  exact⟨hb',(Array.getElem?_eq_some_iff.1 hh).1⟩
section
variable {P:Program} {w:World} {ops:Array Oper} {o:Oper} {a:Act} {Q:Exit->Act->World->Prop}
theorem pV {K:Act->World->Prop}{E:Prop}(hgd:o.guard=none)(s x:Operand)(t u:TypeId)
 (ho:o.op= .call {callee:= .builtin .append,args:= #[s,x],argTypes:= #[t,u]})
 (base:Nat)(e:TypeId)(i0:TypeInfo)(hT:P.underlying t=some (.slice e))(hU:P.underlying u=some .string)(hI:Hid (P.info? e=some i0/\i0.zero=some (.int .u8 0)/\i0.size=1/\i0.bytes=1))
 (v:Value)(n:Nat)(zs:List Int)(hs:a.eval s=v)(hown:w.ownsRow base e 1 v n (zs.map (.int .u8)))(str:ByteArray)(hx:a.eval x= .string str)(h47:n+str.size<=140737488355328)(hbase:base<=w.heap.size)
 (h:∀v' w',w'.ownsRow base e 1 v' (n+str.size) ((zs++af str).map (.int .u8))->Below base w w'-> (∀k,k<w.heap.size->some k≠v.ownBlock->w'.heap[k]? =w.heap[k]?)->K (a.put o.dst v') w') :
 if Region.wanted o (yielded ops a.tmps) =true then Oper.wp P o a w K Q else E:=by
 have hw:Region.wanted o (yielded ops a.tmps) =true:=by simp[Region.wanted,hgd]
 rw[if_pos hw];obtain⟨v',w',hr,h1,h2,_⟩:=run_append_own_string (P:=P) (w:=w) base t u o.type e i0 hT hU hI.out.1 hI.out.2.1 hI.out.2.2.1 hI.out.2.2.2 v n _ hown str (by unfold maxLen;omega) h47 hbase;unfold Oper.wp;simp[execOp,ho,resolve,invoke,builtin,hs,hx,hr,Result.andThen];exact h v' w' (by rw[List.map_append,<- sH];exact h1) (aF.grown h2 hbase fun k hk=> (rV hown k hk).1) (fun k hk hr'=>h2.block k hk hr')
end
end Go.Proofs.YtcjagakckffkiaaGreatDoor
namespace Go.Proofs.YtcjagakckffkiaaGreatDoor.bL
open Go.RowKit
def pq (zs:List Int)(E:Int)(w:World)(e:Ending)(w':World) :Prop:=
 ∃b m c,e= .returned (.tuple #[.slice b m c,.int .i64 E])/\zs.length=m/\m<=c/\c<=maxLen/\BytesIn w' b zs/\Below w.heap.size w w'
theorem pq.nil {E:Int}{w w':World}(h:Below w.heap.size w w') :pq [] E w (.returned (.tuple #[.slice none 0 0,.int .i64 E])) w':=
 ⟨none,0,0,rfl,rfl,ah,Nat.zero_le _,.inl rfl,h⟩
theorem pq.own {zs:List Int}{w w':World}{base:Nat}{e:TypeId}{v:Value}(h:w'.ownsRow base e 1 v zs.length (zs.map (.int .u8)))(hz:∀z∈zs,0<=z/\z<=255)(hb:Below w.heap.size w w') :
 pq zs 0 w (.returned (.tuple #[v,.int .i64 0])) w':=by
 rcases h.2 with⟨hv,h0⟩|⟨g,cap,cur,hv,_,hh,hc,hm,_⟩
 ·rw[hv];obtain rfl:zs= [] :=List.length_eq_zero_iff.1 h0;exact .nil hb
 ·subst hv;exact⟨_,_,cap,rfl,rfl,hc,hm,.bJ h hz,hb⟩
theorem rk (r:Rec) :∀z∈lA r,0<=z/\z<=255:=by
 intro z hz;unfold lA at hz;simp only[List.mem_append,List.mem_singleton]at hz
 have hd:∀z∈dq (lv r),0<=z/\z<=255:=fun z hz=>by
  have:=iI (lv r);rw[List.all_eq_true]at this;have:= (eM z).1 (this z hz);omega
 rcases hz with((((h|h) |h) |h) |h) |h
 ·exact hd z h
 ·omega
 ·exact dw _ z h
 ·omega
 ·exact dw _ z h
 ·omega
theorem Ho (rs:List Rec) :∀z∈dR rs,0<=z/\z<=255:=by
 intro z hz;unfold dR at hz;obtain⟨l,hl,hz⟩:=List.mem_flatten.1 hz;obtain⟨r,_,rfl⟩:=List.mem_map.1 hl;exact rk r z hz
theorem JT (r:Rec) :strOfNums (dq (lv r)) ++ {data:= #[32]} ++r.1++ {data:= #[61]} ++r.2++ {data:= #[10]} =strOfNums (lA r) :=by
 apply eN;rw[fV,fV,fV,fV,fV,av (rk r)];rw[av (fun z hz=>rk r z (by unfold lA;simp[hz]))];rfl
theorem yM (a:Option Addr)(cap:Nat)(w:World) :Calls Tryz.prog 150 #[.slice a 0 cap] w (pq [] 0 w) :=by
 go_enter Tryz.func150,Tryz.ntmps150;go_wp2;go_loop [12] (fun i=>i= .int .i64 (0:Int)) (fun i=>0- (intOf i).toNat)
 case atStart=>rfl
 case round=>
  subst hrel;go_wp2;go_loop [7,28] (fun v i=>v= .slice none 0 0/\i= .int .i64 (0:Int)) (fun _ i=>0- (intOf i).toNat)
  case atStart=>exact⟨rfl,rfl⟩
  case round=>
   obtain⟨rfl,rfl⟩:=hrel;go_wp2;go_ret2;exact .nil aF
theorem wK {rs:List Rec}{j:Nat}{r:Rec}(h:rs[j]? =some r) :kK (rs.take j) (rs.drop j) =if eI (rs.take j) r≠0 then eI (rs.take j) r else kK (rs.take (j+1)) (rs.drop (j+1)) :=by
 have hl:j<rs.length:= (List.getElem?_eq_some_iff.1 h).1;have hr:rs[j] =r:= (List.getElem?_eq_some_iff.1 h).2;rw[List.drop_eq_getElem_cons hl,gU,hr,<- hr,<- List.take_succ_eq_append_getElem hl]
set_option maxRecDepth 100000 in
theorem yl (b off n cap:Nat)(rs:List Rec)(w:World)(V:iX w)(hv:∀r∈rs,r.2.size<=maxLen)(hn:rs.length=n)(hc:n<=cap)(hm:cap<=maxLen)(hlt:b<w.heap.size)(hR:od w b off rs)(hE:kK [] rs≠0) :
 Calls Tryz.prog 150 #[.slice (some ⟨b,off,none⟩) n cap] w (pq [] (kK [] rs) w) :=by
 obtain⟨E,hEE⟩:=named (kK [] rs);rw[<- hEE.out]at hE⊢;have HR:=ad hR;have HN:=ad hn;have HVV:=ad V;have HSZ:=ad hv;have HLT:=ad hlt;have HM:=ad hm;have HC:=ad hc;have HZ:=ad uY;have HO:=ad uz;have HE:=ad hE;unfold maxLen at hm;clear hR hn V hv hlt hE;go_enter Tryz.func150,Tryz.ntmps150;go_wp2;go_loopw [12] (fun i wr=>∃j:Nat,i= .int .i64 j/\j<=n/\kK (rs.take j) (rs.drop j) =E/\Below w.heap.size w wr) (fun i _=>n- (intOf i).toNat)
 case atStart=>exact⟨0,rfl,Nat.zero_le _,by rw[hEE.out];rfl,aF⟩
 case round=>
  obtain⟨j,rfl,hj,he,hb⟩:=hrel;have HEJ:=ad he;have HL:=ad hb;clear he hb;by_cases hjn:j<n
  ·obtain⟨r,hr⟩:=get_some (show j<rs.length by rw[HN.out];exact hjn);have hmem:r∈rs:=List.mem_of_getElem? hr;obtain⟨K,D⟩:=r;obtain⟨c0',c1'⟩:= (HR.out.below HL.out HLT.out) j _ hr;have c0:wr.cell? ⟨b,off+j*2,none⟩=some (.string K) :=c0';have c1:wr.cell? ⟨b,off+j*2+1,none⟩=some (.string D) :=c1';have j1: (j:Int) <n:=by omega
   have j2: (j:Int)<=cap:=by omega
   have hst:=wK hr;obtain⟨C,hC⟩:=named (eI (rs.take j) (K,D));rw[<- hC.out,HEJ.out]at hst;have HST:=ad hst;have LB:=ad (Nat.lt_of_lt_of_le HLT.out HL.out.size);have RT:=ad (HR.out.below HL.out HLT.out)
   have HCN:=ad fun(w':World) (hb:Below wr.heap.size wr w') =>
    (show Calls Tryz.prog 199 #[.slice (some ⟨b,off,none⟩) j cap,.agg #[.string K,.string D]] w' fun e w''=>e= .returned (.int .i64 C)/\Below w'.heap.size w' w'' by
      rw[hC.out];refine kp _ j cap (rs.take j) K D w' (HVV.out.go (ar HL.out hb)) (HSZ.out _ hmem) (by rw[List.length_take,HN.out];omega) (by omega) HM.out ?_;exact bS.take (.inr ⟨b,off,rfl,Nat.lt_of_lt_of_le LB.out hb.size,RT.out.below hb LB.out⟩) j)
   clear hst c0' c1' hr hmem hjn;go_wp2_with (first| (refine ag rfl 202 rfl rz HZ.out ?_;intro w2 g2 b2;have R2:=ad g2;have B2:=ad (ar HL.out b2);have A2:=ad b2;clear g2 b2) | (refine ae rfl 202 _ _ rfl wr.heap.size rfl [.string K,.string D] rz rfl 202 R2.out HO.out.2 rfl (eF _ _) ?_;intro w3 g3 t3;have R3:=ad g3;have A3:=ad (A2.out.trans (t3.below (Nat.le_refl wr.heap.size)));have B3:=ad (ar HL.out A3.out);clear g3 t3))
   have KC:Hid (∀w',Below w3.heap.size w3 w'->w'.cell? ⟨wr.heap.size,0,none⟩=some (.string K)/\w'.cell? ⟨wr.heap.size,1,none⟩=some (.string D)) :=fun w' hw=>by
    have h:=R3.out.below hw R3.out.lt;exact⟨h.get 0 rfl,h.get 1 rfl⟩
   have d0:∀q:Of (fun w'=>Below w3.heap.size w3 w'),q.w.cell? ⟨wr.heap.size,0,none⟩=some (.string K) :=fun q=> (KC.out _ q.h).1;have d1:∀q:Of (fun w'=>Below w3.heap.size w3 w'),q.w.cell? ⟨wr.heap.size,1,none⟩=some (.string D) :=fun q=> (KC.out _ q.h).2;have j3: (0:Int)<=j:=by omega
   clear c0 c1;go_simp;refine aC (S:=fun w'=>Below w3.heap.size w3 w') (by kernel_rfl) (by kernel_rfl) aF.drew ?_;intro hne
   repeat (go_big_quiet_step ((go_at_call 199;exact Calls.gT (v:= .int .i64 C) (HCN.out _ (A3.out.trans (Below.mono (Of.h _) A3.out.size))) fun w' hb q=>q.trans (hb.mono q.size))))
   refine wpQuiet_nil ?_;rintro wq ⟨q,rfl⟩;have BQ:=ad (B3.out.trans (Below.mono q.h B3.out.size));by_cases hC0:C=0
   ·have H2:Hid (kK (rs.take (j+1)) (rs.drop (j+1)) =E) :=by
     show _=_;rw[HST.out,if_neg (by simpa using hC0)]
    subst hC0;go_wp2;go_roundw
    case rel=>exact⟨j+1,by go_num,by omega,H2.out,BQ.out⟩
    case measure=>simp[intOf];omega
   ·have H2:Hid (E=C) :=by show _=_;rw[HST.out,if_pos hC0]
    have q4: (C !=0) =true:=by simpa using hC0
    clear hC0;go_wp2;go_ret2;rw[H2.out];exact .nil BQ.out
  ·exfalso;have h:=HEJ.out;rw[List.drop_eq_nil_of_le (by rw[HN.out];omega)]at h;exact HE.out h.symm
set_option maxRecDepth 100000 in
theorem xT (b off n cap:Nat)(rs:List Rec)(w:World)(V:iX w)(hv:∀r∈rs,r.2.size<=maxLen)(hn:rs.length=n)(hc:n<=cap)(hm:cap<=maxLen)(hlt:b<w.heap.size)(hR:od w b off rs)(hE:kK [] rs=0) :
 Calls Tryz.prog 150 #[.slice (some ⟨b,off,none⟩) n cap] w (pq (dR rs) 0 w) :=by
 obtain⟨E,hEE⟩:∃E:Int,Hid (E=0) :=⟨0,Eq.refl (0:Int)⟩;have HFM:=ad hE;have HGD:=ad (kr rs [] hE);have HLE:=ad (Gt hE);obtain⟨i0,hI⟩:=fO (P:=Tryz.prog) (e:=5) (by kernel_rfl);have HR:=ad hR;have HN:=ad hn;have HVV:=ad V;have HSZ:=ad hv;have HLT:=ad hlt;have HM:=ad hm;have HC:=ad hc;have HZ:=ad uY;have HO:=ad uz;unfold maxLen at hm;clear hR hn V hv hlt;rw[<- hEE.out]at hE;have HE:=ad hE;clear hE;go_enter Tryz.func150,Tryz.ntmps150;go_wp2;go_loopw [12] (fun i wr=>∃j:Nat,i= .int .i64 j/\j<=n/\kK (rs.take j) (rs.drop j) =E/\Below w.heap.size w wr) (fun i _=>n- (intOf i).toNat)
 case atStart=>exact⟨0,rfl,Nat.zero_le _,by rw[<- HE.out];rfl,aF⟩
 case round=>
  obtain⟨j,rfl,hj,he,hb⟩:=hrel;have HEJ:=ad he;have HL:=ad hb;clear he hb;by_cases hjn:j<n
  ·obtain⟨r,hr⟩:=get_some (show j<rs.length by rw[HN.out];exact hjn);have hmem:r∈rs:=List.mem_of_getElem? hr;obtain⟨K,D⟩:=r;obtain⟨c0',c1'⟩:= (HR.out.below HL.out HLT.out) j _ hr;have c0:wr.cell? ⟨b,off+j*2,none⟩=some (.string K) :=c0';have c1:wr.cell? ⟨b,off+j*2+1,none⟩=some (.string D) :=c1';have j1: (j:Int) <n:=by omega
   have j2: (j:Int)<=cap:=by omega
   have hst:=wK hr;obtain⟨C,hC⟩:=named (eI (rs.take j) (K,D));rw[<- hC.out,HEJ.out]at hst;have HST:=ad hst;have LB:=ad (Nat.lt_of_lt_of_le HLT.out HL.out.size);have RT:=ad (HR.out.below HL.out HLT.out)
   have HCN:=ad fun(w':World) (hb:Below wr.heap.size wr w') =>
    (show Calls Tryz.prog 199 #[.slice (some ⟨b,off,none⟩) j cap,.agg #[.string K,.string D]] w' fun e w''=>e= .returned (.int .i64 C)/\Below w'.heap.size w' w'' by
      rw[hC.out];refine kp _ j cap (rs.take j) K D w' (HVV.out.go (ar HL.out hb)) (HSZ.out _ hmem) (by rw[List.length_take,HN.out];omega) (by omega) HM.out ?_;exact bS.take (.inr ⟨b,off,rfl,Nat.lt_of_lt_of_le LB.out hb.size,RT.out.below hb LB.out⟩) j)
   clear hst c0' c1' hr hmem hjn;go_wp2_with (first| (refine ag rfl 202 rfl rz HZ.out ?_;intro w2 g2 b2;have R2:=ad g2;have B2:=ad (ar HL.out b2);have A2:=ad b2;clear g2 b2) | (refine ae rfl 202 _ _ rfl wr.heap.size rfl [.string K,.string D] rz rfl 202 R2.out HO.out.2 rfl (eF _ _) ?_;intro w3 g3 t3;have R3:=ad g3;have A3:=ad (A2.out.trans (t3.below (Nat.le_refl wr.heap.size)));have B3:=ad (ar HL.out A3.out);clear g3 t3))
   have KC:Hid (∀w',Below w3.heap.size w3 w'->w'.cell? ⟨wr.heap.size,0,none⟩=some (.string K)/\w'.cell? ⟨wr.heap.size,1,none⟩=some (.string D)) :=fun w' hw=>by
    have h:=R3.out.below hw R3.out.lt;exact⟨h.get 0 rfl,h.get 1 rfl⟩
   have d0:∀q:Of (fun w'=>Below w3.heap.size w3 w'),q.w.cell? ⟨wr.heap.size,0,none⟩=some (.string K) :=fun q=> (KC.out _ q.h).1;have d1:∀q:Of (fun w'=>Below w3.heap.size w3 w'),q.w.cell? ⟨wr.heap.size,1,none⟩=some (.string D) :=fun q=> (KC.out _ q.h).2;have j3: (0:Int)<=j:=by omega
   clear c0 c1;go_simp;refine aC (S:=fun w'=>Below w3.heap.size w3 w') (by kernel_rfl) (by kernel_rfl) aF.drew ?_;intro hne
   repeat (go_big_quiet_step ((go_at_call 199;exact Calls.gT (v:= .int .i64 C) (HCN.out _ (A3.out.trans (Below.mono (Of.h _) A3.out.size))) fun w' hb q=>q.trans (hb.mono q.size))))
   refine wpQuiet_nil ?_;rintro wq ⟨q,rfl⟩;have BQ:=ad (B3.out.trans (Below.mono q.h B3.out.size))
   have hC0:C=0:=by
    have h:=HST.out;by_cases hC0:C=0
    ·exact hC0
    ·rw[if_pos hC0,hEE.out]at h;exact h.symm
   have H2:Hid (kK (rs.take (j+1)) (rs.drop (j+1)) =E) :=by
    show _=_;rw[HST.out,if_neg (by simpa using hC0)]
   subst hC0;go_wp2;go_roundw
   case rel=>exact⟨j+1,by go_num,by omega,H2.out,BQ.out⟩
   case measure=>simp[intOf];omega
  ·have hj':j=n:=by omega
   clear hjn;have j9:¬(j:Int) <n:=by omega
   have HL0:=HL;clear HEJ;clear HL;go_wp2;clear j9 hj hj';go_loopw [7,28] (fun v i wr=>∃j:Nat,i= .int .i64 j/\j<=n/\wr.ownsRow w.heap.size 5 1 v (dR (rs.take j)).length ((dR (rs.take j)).map (.int .u8))/\Below w.heap.size w wr) (fun _ i _=>n- (intOf i).toNat)
   case atStart=>exact⟨0,rfl,Nat.zero_le _,⟨rfl,.inl ⟨rfl,rfl⟩⟩,HL0.out⟩
   case round=>
    obtain⟨j,rfl,hj,ho,hb⟩:=hrel;have HW:=ad ho;have HL:=ad hb;clear ho hb;by_cases hjn:j<n
    ·obtain⟨r,hr⟩:=get_some (show j<rs.length by rw[HN.out];exact hjn);have hmem:r∈rs:=List.mem_of_getElem? hr;obtain⟨K,D⟩:=r;have G:= (HGD.out _ hmem).1;obtain⟨c0',c1'⟩:= (HR.out.below HL.out HLT.out) j _ hr;have c0:wr.cell? ⟨b,off+j*2,none⟩=some (.string K) :=c0';have c1:wr.cell? ⟨b,off+j*2+1,none⟩=some (.string D) :=c1';have j1: (j:Int) <n:=by omega
     have gk:K.size<=8:=G.key;have gd:D.size<=65536:=G.val;have k1: (K.size:Int)<=8:=by omega
     have k2: (D.size:Int)<=65536:=by omega
     have go:mB (K,D)<=1000000:=by have:=G.mB;omega
     have gs:=G.sz
     have htake:rs.take (j+1) =rs.take j++ [(K,D)] :=by
      have hl:j<rs.length:= (List.getElem?_eq_some_iff.1 hr).1;rw[List.take_succ_eq_append_getElem hl,(List.getElem?_eq_some_iff.1 hr).2]
     have FT:Hid (dR (rs.take (j+1)) =dR (rs.take j) ++lA (K,D)) :=by show _=_;rw[htake,nJ]
     have hle:=HLE.out (j+1);rw[FT.out,List.length_append,jf go]at hle;obtain⟨T,hT⟩:=named (strOfNums (dq (lv (K,D))))
     have hts:T.size<=100:=by
      rw[hT.out,tm]
      have:=gQ 6 (lv (K,D)) (by have: (10:Nat) ^ (6+1) =10000000:=by decide
                                omega)
      omega
     have s1:¬9223372036854775807<T.size+1:=by omega
     have s2:¬9223372036854775807<T.size+1+K.size:=by omega
     have s3:¬9223372036854775807<T.size+1+K.size+1:=by omega
     have s4:¬9223372036854775807<T.size+1+K.size+1+D.size:=by omega
     have s5:¬9223372036854775807<T.size+1+K.size+1+D.size+1:=by omega
     have HZL:=ad (show lv (K,D)<=9223372036854775807 by omega);have ES:Hid (T++ {data:= #[32]} ++K++ {data:= #[61]} ++D++ {data:= #[10]} =strOfNums (lA (K,D))) :=by show _=_;rw[hT.out];exact JT (K,D)
     have EL:Hid ((strOfNums (lA (K,D))).size=lv (K,D)) :=by show _=_;rw[<- an,av (rk _),jf go]
     obtain⟨X,hX⟩:=named (dR (rs.take j));obtain⟨M,hM⟩:=named (dR (rs.take j)).length;have MX:Hid (M+lv (K,D)<=140737488355328) :=by show _<=_;rw[hM.out];omega
     rw[<- hM.out,<- hX.out]at HW;rw[<- hX.out]at FT hM;have LB:=ad (Nat.lt_of_lt_of_le HLT.out HL.out.size);have SA0:=ad fun(w':World) (hb:Below wr.heap.size wr w') =>rC K D w' (HVV.out.go (ar HL.out hb)) go;have IT0:=ad fun(w':World) (hb:Below wr.heap.size wr w') =>xY (lv (K,D)) HZL.out w' (HVV.out.go (ar HL.out hb));rw[<- hT.out]at IT0
     have HNE:Hid (some wr.heap.size≠u7.ownBlock) :=fun e=>by
      have:= (rV HW.out _ e.symm).2;omega
     have GO:=ad go;clear c0' c1' hr hmem hjn G gk gd go gs htake hle hts;go_wp2_with (first| (refine ag rfl 202 rfl rz HZ.out ?_;intro w2 g2 b2;have R2:=ad g2;have B2:=ad (ar HL.out b2);have A2:=ad b2;clear g2 b2) | (refine ae rfl 202 _ _ rfl wr.heap.size rfl [.string K,.string D] rz rfl 202 R2.out HO.out.2 rfl (eF _ _) ?_;intro w3 g3 t3;have R3:=ad g3;have A3:=ad (A2.out.trans (t3.below (Nat.le_refl wr.heap.size)));have B3:=ad (ar HL.out A3.out);clear g3 t3));obtain⟨g,hg⟩:=named wr.heap.size;have W3:=ad (cG HW.out A3.out ah)
     have KC:Hid (∀w',Below w3.heap.size w3 w'->w'.cell? ⟨g,0,none⟩=some (.string K)/\w'.cell? ⟨g,1,none⟩=some (.string D)) :=fun w' hw=>by
      have h:=R3.out.below hw R3.out.lt;rw[hg.out];exact⟨h.get 0 rfl,h.get 1 rfl⟩
     have KT:Hid (∀w' w'':World,Below w3.heap.size w3 w'-> (∀k,k<w'.heap.size->some k≠u7.ownBlock->w''.heap[k]? =w'.heap[k]?)->w''.cell? ⟨g,0,none⟩=some (.string K)/\w''.cell? ⟨g,1,none⟩=some (.string D)) :=fun w' w'' hw hk=>by
      have h:=R3.out.below hw R3.out.lt;have h':ak w'' wr.heap.size 202 [.string K,.string D] := (hk _ h.lt HNE.out).trans h;rw[hg.out];exact⟨h'.get 0 rfl,h'.get 1 rfl⟩
     have SA:=ad fun(w':World) (hb:Below w3.heap.size w3 w') =>SA0.out w' (A3.out.trans (hb.mono A3.out.size));have IT:=ad fun(w':World) (hb:Below w3.heap.size w3 w') =>IT0.out w' (A3.out.trans (hb.mono A3.out.size));clear c0 c1;go_simp;rw[<- hg.out];refine wp_region_held_drew (S:= (fun w'=>w'.cell? ⟨g,0,none⟩=some (.string K)/\w'.cell? ⟨g,1,none⟩=some (.string D))) (by kernel_rfl) (KC.out _ aF.drew) (fun hHeld=>?_);refine aJ 0 (h:=aJ 1 (h:=aJ 5 (h:=aJ 6 (h:=?_))));simp only[Act.put,bB,bC,bD];refine aJ 9 (h:=aJ 10 (h:=?_));simp only[Act.put,bB,bC,bD];refine rd 2 fun K hK=>?_;go_simp;refine(SA.out _ aF.drew).mono ?_;rintro e w7 ⟨rfl,b7⟩;have D7:Hid (Below w3.heap.size w3 w7) :=aF.drew.trans b7;clear b7;go_wp2_with fail;refine hK.out _ _ (KC.out _ D7.out) (fun hHeld=>?_);clear hK K
     (try simp only[Act.put,bB,bC,bD])
     refine rd 3 fun K hK=>?_;go_simp;refine(IT.out _ D7.out).mono ?_;rintro e w8 ⟨rfl,b8⟩;have D8:=ad (ar D7.out b8);clear b8;go_wp2_with fail;refine hK.out _ _ (KC.out _ D8.out) (fun hHeld=>?_);clear hK K
     (try simp only[Act.put,bB,bC,bD])
     refine aJ 4 (h:=aJ 7 (h:=aJ 8 (h:=aJ 11 (h:=?_))));simp only[Act.put,bB,bC,bD];refine tk 12 ?_;simp only[Act.put,bB,bC,bD];refine rd 13 fun K hK=>?_;refine pV rfl (.tmp 32) (.tmp 44) 25 9 rfl w.heap.size 5 i0 Tryz.underlying25 Tryz.underlying9 hI u7 M X rfl (cG W3.out D8.out ah) _ rfl ?_ (Nat.le_trans B3.out.size D8.out.size) ?_
     ·have e:=ES.out;have h1:=EL.out;rw[e,h1];exact MX.out
     intro v9 w9 o9 b9 k9;have O9:=ad o9;have B9:=ad ((B3.out.trans (D8.out.mono B3.out.size)).trans b9);have K9:=ad k9;clear o9 b9 k9;refine hK.out _ _ (KT.out _ _ D8.out K9.out) (fun hHeld=>?_);clear hK K
     (try simp only[Act.put,bB,bC,bD])
     refine tk 14 ?_;simp only[Act.put,bB,bC,bD];refine wpAnyH_done (by kernel_rfl) ?_ _;go_wp2;go_roundw
     case rel=>
      refine⟨j+1,by go_num,by omega,?_,B9.out⟩;have h:=O9.out;rw[ES.out,EL.out,av (rk _)]at h;rw[FT.out,List.length_append,<- hM.out,jf GO.out];exact h
     case measure=>simp[intOf];omega
    ·have hj':j=n:=by omega
     subst hj';clear hjn;have j9:¬(j:Int) <j:=by omega
     have hX:rs.take j=rs:=List.take_of_length_le (by rw[HN.out];exact ah);rw[hX]at HW;go_wp2;go_ret2;exact .own HW.out (Ho rs) HL.out
def Qm (rs:List Rec) :List Int:=if kK [] rs=0 then dR rs else []
theorem yz (a:Option Addr)(n cap:Nat)(rs:List Rec)(w:World)(V:iX w)(hv:∀r∈rs,r.2.size<=maxLen)(hn:rs.length=n)(hc:n<=cap)(hm:cap<=maxLen)(hR:bS w a rs) :
 Calls Tryz.prog 150 #[.slice a n cap] w (pq (Qm rs) (kK [] rs) w) :=by
 unfold Qm;rcases hR with rfl|⟨b,off,rfl,hlt,hat⟩
 ·obtain rfl:n=0:=hn.symm;exact yM a cap w
 ·by_cases hE:kK [] rs=0
  ·rw[if_pos hE,hE];exact xT b off n cap rs w V hv hn hc hm hlt hat hE
  ·rw[if_neg hE];exact yl b off n cap rs w V hv hn hc hm hlt hat hE
end Go.Proofs.YtcjagakckffkiaaGreatDoor.bL
