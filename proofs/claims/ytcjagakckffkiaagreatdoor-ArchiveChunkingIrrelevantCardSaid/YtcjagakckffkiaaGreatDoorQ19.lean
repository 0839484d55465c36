import Derived.Test.YtcjagakckffkiaaGreatDoorQ9
import Derived.Test.YtcjagakckffkiaaGreatDoorQ18
import Derived.Test.YtcjagakckffkiaaGreatDoorQ1
import Derived.Test.YtcjagakckffkiaaGreatDoorQ6
import Derived.Test.YtcjagakckffkiaaGreatDoorQ17
import Derived.Test.YtcjagakckffkiaaGreatDoorQ16
import Derived.Test.YtcjagakckffkiaaGreatDoorQ4
import Derived.Test.YtcjagakckffkiaaGreatDoorQ8
import Derived.Test.YtcjagakckffkiaaGreatDoorRows
set_option maxHeartbeats 16000000
namespace Go.Proofs.YtcjagakckffkiaaGreatDoor.bL
open Go.RowKit
def zW (rs:List Rec)(N:Nat)(E:Int)(w:World)(e:Ending)(w':World) :Prop:=
 ∃a l c,e= .returned (.tuple #[.slice a l c,.int .i64 (N:Int),.int .i64 E])/\l=rs.length/\l<=c/\c<=maxLen/\bS w' a rs/\Below w.heap.size w w'
def ko (rs:List Rec)(N:Nat)(E:Int)(w:World)(e:Ending)(w':World) :Prop:=
 ∃a l c,e= .returned (.tuple #[.slice a l c,.int .i64 (N:Int),.int .i64 E])/\l=rs.length/\l<=c/\c<=maxLen/\bS w' a rs/\Below w.heap.size w w'/\∀x,a=some x->w.heap.size<=x.block
theorem ko.nil {N:Nat}{E:Int}{w w':World}(h:Below w.heap.size w w') :ko [] N E w (.returned (.tuple #[.slice none 0 0,.int .i64 (N:Int),.int .i64 E])) w':=
 ⟨none,0,0,rfl,rfl,ah,Nat.zero_le _,.inl rfl,h,fun x hx=>by cases hx⟩
theorem ko.ret {rs:List Rec}{N:Nat}{E:Int}{w w':World}{e:Ending}(h:ko rs N E w e w') :zW rs N E w e w':=by
 obtain⟨a,l,c,h1,h2,h3,h4,h5,h6,_⟩:=h;exact⟨a,l,c,h1,h2,h3,h4,h5,h6⟩
theorem Mv {zs:List Int}(hz:∀z∈zs,0<=z/\z<=255)(hl:zs.length<=300000) : (rG zs).1.size<=300000/\ (rG zs).2.size<=300000:=by
 unfold rG
 split
 ·have:=yO zs;obtain⟨h1,h2⟩:=lM hz;exact⟨vi (by omega) h1,vi (by omega) h2⟩
 ·exact⟨Nat.zero_le _,Nat.zero_le _⟩
set_option maxRecDepth 100000 in
theorem tU (a:Option Addr)(n cap:Nat)(zs:List Int)(w:World)(V:iX w)(hn:zs.length=n)(hz:∀z∈zs,0<=z/\z<=255)(hi:BytesIn w a zs)(hN:n<=300000) :
 Calls Tryz.prog 171 #[.slice a n cap] w (ko (bh zs).1 (bh zs).2.1 (bh zs).2.2 w) :=by
 obtain⟨PR,hPR⟩:=named (bh zs).1;obtain⟨PN,hPN⟩:=named (bh zs).2.1;obtain⟨PE,hPE⟩:=named (bh zs).2.2;have hP:Hid (bh zs= (PR,PN,PE)) :=by show _=_;rw[hPR.out,hPN.out,hPE.out]
 rw[<- hPR.out,<- hPN.out,<- hPE.out];by_cases hb:262144<n
 ·have e: (PR,PN,PE) = (([] :List Rec),0,(7:Int)) :=by rw[<- hP.out];unfold bh;rw[if_pos (by omega)]
  simp only[Prod.mk.injEq]at e;obtain⟨rfl,rfl,rfl⟩:=e;have m1: (262144:Int) <n:=by omega
  clear hP hPR hPN hPE;go_enter Tryz.func171,Tryz.ntmps171;go_wp2;go_ret3;exact .nil aF
 ·have m1:¬(262144:Int) <n:=by omega
  obtain⟨i0,hI⟩:=Pv;obtain⟨S,hS⟩:=named (strOfNums zs);have hSn:af S=zs:=by rw[hS.out];exact av hz
  have hSs:S.size=n:=by rw[<- an,hSn,hn]
  have hcv:=bF (P:=Tryz.prog) Tryz.underlying25 Tryz.underlying5 Tryz.underlying9 hi n cap hn;rw[<- hS.out]at hcv;have HP0:Hid (ph (n+1) [] 0 zs= (PR,PN,PE)) :=by show _=_;rw[<- hP.out];unfold bh;rw[hn,if_neg hb]
  have HV:=ad V;have NS:=ad hSn;have SS:=ad hSs;have HZB:=ad hz;have HNL:=ad hn;have hJ:=ad PX;have HZ:=ad uY;have HO:=ad uz;have HB:=ad hb;have HUnd:=ad Tryz.underlying133;obtain⟨B,hBd⟩:=named w.heap.size;clear hP hPR hPN hPE hSn hSs hz hi V hn hb hN;go_enter Tryz.func171,Tryz.ntmps171;go_wp2_with fail;clear hcv
  go_loopw [6,7] (fun l o wr=>∃(out:List Rec) (at_ f:Nat),o= .int .i64 at_/\at_<=n/\out.length<=at_/\n<at_+f/\ph f out at_ zs= (PR,PN,PE)/\wr.ownsRow w.heap.size 202 2 l out.length (aW out)/\Below w.heap.size w wr)
   (fun _ o _=>n+1- (intOf o).toNat)
  case atStart=>exact⟨[],0,n+1,rfl,Nat.zero_le _,ah,by omega,HP0.out,⟨rfl,.inl ⟨rfl,rfl⟩⟩,aF⟩
  case round=>
   obtain⟨out,at_,f,rfl,hat,hol,hf,hgo,hown,hbel⟩:=hrel;obtain⟨g,rfl⟩:∃g,f=g+1:=⟨f- 1,by omega⟩;have HG:=ad hgo;have HW:=ad hown;have HL:=ad hbel;have HF:=ad hf;have HOL:=ad hol;obtain⟨va,vc,hv,hvn,hvc,hvm,hvi,hvb⟩:=bS.bJ hown;subst hv;have HVB:=ad hvb;have HVI:=ad hvi;have HVC:=ad hvc;have HVM:=ad hvm;clear hgo hown hbel hf hol hvi hvn hvc hvm hvb;by_cases hlt:at_<n
   ·have q1: (at_:Int) <S.size:=by rw[SS.out];omega
    have q2: (at_:Int)<=S.size:=by omega
    have hzn:¬zs.length<=at_:=by rw[HNL.out];omega
    obtain⟨sub,hsub⟩:=named (S.extract at_ S.size)
    have hsubn:af sub=zs.drop at_:=by
     rw[hsub.out,iQ,NS.out,List.take_of_length_le (by rw[List.length_drop,SS.out,HNL.out];omega)]
    have hsubs:sub.size<=300000:=by rw[<- an,hsubn,List.length_drop,HNL.out];have:=HB.out;omega
    have PF:=yP sub wr (HV.out.go HL.out) hsubs;rw[hsubn]at PF;have hdz:∀z∈zs.drop at_,0<=z/\z<=255:=fun z hz0=>HZB.out z (List.mem_of_mem_drop hz0);have XS:=Mv hdz (by rw[List.length_drop,HNL.out];have:=HB.out;omega);obtain⟨E,hE⟩:=named (mv (zs.drop at_));obtain⟨K,hK⟩:=named (rG (zs.drop at_)).1;obtain⟨D,hD⟩:=named (rG (zs.drop at_)).2;rw[<- hE.out,<- hK.out,<- hD.out]at PF;rw[<- hK.out,<- hD.out]at XS;have HPF:=ad PF;have HXS:=ad XS;have HZN:=ad hzn;clear PF XS hsubn hsubs hdz hzn hlt;by_cases hE0:E=0
    ·have T0:Cw (zs.drop at_) := (vo _).1 (by rw[<- hE.out];exact hE0);have hX:rG (zs.drop at_) =lQ (zs.drop at_) :=by unfold rG;rw[if_pos (by rw[<- hE.out];exact hE0)]
     have hKD:Hid ((K,D) =lQ (zs.drop at_)) :=by show _=_;rw[hK.out,hD.out,hX]
     have hte:Hid (mv (zs.drop at_) =0) :=by show _=_;rw[<- hE.out];exact hE0
     have hdz:∀z∈zs.drop at_,0<=z/\z<=255:=fun z hz0=>HZB.out z (List.mem_of_mem_drop hz0);have hSZ:Hid (lv (K,D) =ig (zs.drop at_)) :=by show _=_;rw[hKD.out];exact(Md hdz T0).2
     have hoth:Hid (mB (K,D)<=1000000) :=by
      show _<=_;rw[hKD.out,yW hdz];have:=yO (zs.drop at_);rw[List.length_drop,HNL.out]at this;have:=HB.out;omega
     have hTN:1<=ig (zs.drop at_)/\ig (zs.drop at_)<=n- at_:=⟨T0.pos,by have:=T0.len;rw[List.length_drop,HNL.out]at this;exact this⟩;have HTN:=ad hTN;subst hE0;obtain⟨C,hC⟩:=named (eI out (K,D))
     have HCN:=ad fun(w':World) (hb:Below w.heap.size w w') (hr:bS w' va out) =>
      (show Calls Tryz.prog 199 #[.slice va out.length vc,.agg #[.string K,.string D]] w' fun e w''=>e= .returned (.int .i64 C)/\Below w'.heap.size w' w'' by
        rw[hC.out];exact kp va out.length vc out K D w' (HV.out.go hb) (by have:=HXS.out;unfold maxLen;omega) rfl HVC.out HVM.out hr)
     clear T0 hX hTN hdz;go_wp2_with fail;rw[<- hsub.out];refine HPF.out.mono ?_;rintro e w1 ⟨rfl,b1⟩
     have HNE:Hid (some w1.heap.size≠(Value.slice va out.length vc).ownBlock) :=fun e=>by
      cases hq:va with
      |none=>rw[hq]at e;cases e
      |some x=>
       rw[hq]at e;have h1:= (HVB.out x hq).2;have h2:=b1.size;have h3:w1.heap.size=x.block:=Option.some.inj e;omega
     have I1:=ad (HVI.out.below b1);have W1:=ad (cG HW.out b1 ah);have B1:=ad (ar HL.out b1);clear b1;go_wp2_with (first| (refine ag rfl 202 rfl rz HZ.out ?_;intro w2 g2 b2;have R2:=ad g2;have A2:=ad b2;have B2:=ad (ar B1.out b2);clear g2 b2) | (refine ae rfl 202 _ _ rfl w1.heap.size rfl [.string K,.string D] rz rfl 202 R2.out HO.out.2 rfl (eF _ _) ?_;intro w3 g3 t3;have R3:=ad g3;have A3:=ad (A2.out.trans (t3.below (Nat.le_refl w1.heap.size)));have I3:=ad (I1.out.below A3.out);have W3:=ad (cG W1.out A3.out ah);have B3:=ad (ar B1.out A3.out);have c0:=g3.get 0 rfl;have c1:=g3.get 1 rfl;clear g3 t3));refine(HCN.out _ B3.out I3.out).mono ?_;rintro e w4 ⟨rfl,b4⟩;have R4:=ad (R3.out.below b4 R3.out.lt);have W4:=ad (cG W3.out b4 ah);have B4:=ad (ar B3.out b4);clear b4 c0 c1;by_cases hC0:C=0
     ·have HG2:Hid (ph g (out++ [(K,D)]) (at_+ig (zs.drop at_)) zs= (PR,PN,PE)) :=by
       show _=_;have:=HG.out;rw[yi HZN.out hte.out (by rw[<- hKD.out,<- hC.out];exact hC0),<- hKD.out]at this;exact this
      have SA:=ad (fun(w':World) (hb:Below w.heap.size w w') =>rC K D w' (HV.out.go hb) hoth.out);rw[hSZ.out]at SA;obtain⟨tn,htn⟩:=named (ig (zs.drop at_));rw[<- htn.out]at SA HTN HG2;have c0:=R4.out.get 0 rfl;have c1:=R4.out.get 1 rfl;have LR:=ad R4.out.lt;have hva:=bS.bJ W4.out;have ho6:Hid (out.length<=1000000) :=by show _<=_;have:=HOL.out;have:=HB.out;omega
      have p1: (at_:Int) +tn<=1000000:=by have:=HTN.out;have:=HB.out;omega
      have HC0:=ad hC0;subst hC0;clear hva;go_wp2_with (first| (refine bQ rfl _ 202 _ rfl HUnd.out _ hJ.out K D rfl ?_;intro w5 g5 b5;have G5:=ad g5;have R5:=ad (R4.out.below b5 LR.out);have W5:=ad (cG W4.out b5 ah);have B5:=ad (ar B4.out b5);clear g5 b5) | (at_builtin;refine bo rfl _ _ _ rfl w.heap.size _ i0 _ HUnd.out hI _ out.length out rfl W5.out w4.heap.size (K,D) rfl G5.out ho6.out B5.out.size ?_;intro v6 w6 o6 b6 k6;have W6:=ad o6;have B6:=ad (B5.out.trans b6);have r6:= (k6 w1.heap.size R5.out.lt HNE.out).trans R5.out;have R6:Hid (ak w6 w1.heap.size 202 [.string K,.string D]) :=r6;have d0:=R6.out.get 0 rfl;have d1:=R6.out.get 1 rfl;clear o6 b6 k6 r6));refine(SA.out _ B6.out).mono ?_;rintro e w7 ⟨rfl,b7⟩;have W7:=ad (cG W6.out b7 ah);have B7:=ad (ar B6.out b7);clear b7 d0 d1 c0 c1;go_wp2;go_roundw
      case rel=>exact⟨out++ [(K,D)],at_+tn,g,by go_num,by have:=HTN.out;omega,by rw[List.length_append,List.length_singleton];have:=HTN.out;have:=HOL.out;omega,by have:=HTN.out;have:=HF.out;omega,HG2.out,by rw[List.length_append,List.length_singleton];exact W7.out,B7.out⟩
      case measure=>simp[intOf];have:=HTN.out;omega
     ·have q3: (C==0) =false:=by simpa using hC0
      have q4: (C !=0) =true:=by simpa using hC0
      have R0:Hid (([] :List Rec) =PR/\at_=PN/\C=PE) :=by
       show _/\_/\_;have:=HG.out;rw[tD HZN.out hte.out (by rw[<- hKD.out,<- hC.out];exact hC0),<- hKD.out,<- hC.out]at this
       simpa using this
      clear hC0;go_wp2;go_ret3;obtain⟨r1,r2,r3⟩:=R0.out;rw[<- r1,<- r2,<- r3];exact .nil B4.out
    ·have q3: (E==0) =false:=by simpa using hE0
     have q4: (E !=0) =true:=by simpa using hE0
     have R0:Hid (([] :List Rec) =PR/\at_=PN/\E=PE) :=by
      show _/\_/\_;have:=HG.out;rw[zT HZN.out (by rw[<- hE.out];exact hE0),<- hE.out]at this
      simpa using this
     clear hE0;go_wp2_with fail;rw[<- hsub.out];refine HPF.out.mono ?_;rintro e w1 ⟨rfl,b1⟩;have B1:=ad (ar HL.out b1);clear b1;go_wp2_with (first| (refine ag rfl 202 rfl rz HZ.out ?_;intro w2 g2 b2;have R2:=ad g2;have B2:=ad (ar B1.out b2);clear g2 b2) | (refine ae rfl 202 _ _ rfl w1.heap.size rfl [.string K,.string D] rz rfl 202 R2.out HO.out.2 rfl (eF _ _) ?_;intro w3 g3 t3;have R3:=ad g3;have B3:=ad (B2.out.trans (t3.below B1.out.size));clear g3 t3));go_ret3;obtain⟨r1,r2,r3⟩:=R0.out;rw[<- r1,<- r2,<- r3];exact .nil B3.out
   ·obtain rfl:at_=n:=by omega
    have q1:¬(at_:Int) <S.size:=by rw[SS.out];omega
    have R0:Hid (out=PR/\at_=PN/\ (0:Int) =PE) :=by
     show _/\_/\_;have:=HG.out;rw[rN (by rw[HNL.out];exact ah),HNL.out]at this
     simpa using this
    clear hlt;go_wp2;go_ret3;obtain⟨r1,r2,r3⟩:=R0.out;rw[<- r1,<- r2,<- r3];exact⟨va,out.length,vc,rfl,rfl,HVC.out,HVM.out,HVI.out,HL.out,fun x hx=> (HVB.out x hx).1⟩
theorem Cn (a:Option Addr)(n cap:Nat)(zs:List Int)(w:World)(V:iX w)(hn:zs.length=n)(hz:∀z∈zs,0<=z/\z<=255)(hi:BytesIn w a zs)(hN:n<=300000) :
 Calls Tryz.prog 171 #[.slice a n cap] w (zW (bh zs).1 (bh zs).2.1 (bh zs).2.2 w) :=
 (tU a n cap zs w V hn hz hi hN).mono fun _ _ h=>h.ret
end Go.Proofs.YtcjagakckffkiaaGreatDoor.bL
namespace Go.Proofs.YtcjagakckffkiaaGreatDoor.dO
open Go.RowKit Go.Proofs.YtcjagakckffkiaaGreatDoor.Fit bL Pnm
def sg (rs:List Rec)(p:Int)(e:Int)(w:World)(x:Ending)(w':World) :Prop:=
 ∃b n c,x= .returned (.tuple #[.slice b n c,.int .i64 p,.int .i64 e])/\rs.length=n/\n<=c/\c<=maxLen/\bS w' b rs/\∀x,b=some x->w.heap.size<=x.block
theorem sg.nil {p e:Int}{w w':World} :sg [] p e w (.returned (.tuple #[.slice none 0 0,.int .i64 p,.int .i64 e])) w':=⟨none,0,0,rfl,rfl,ah,Nat.zero_le _,.inl rfl,fun x hx=>by cases hx⟩
section
variable {lo hi q:Nat} {Z:List Int} {E:Int} {o o1:Nat} {nm pf lk:ByteArray} {md sz:Int}
theorem Hq (Z:List Int)(o:Nat)(err:Int)(s:Nat) : (gw Z o err s).length<=s:=by
 unfold gw
 split
 ·exact Nat.zero_le _
 ·split
  ·rw[List.length_take];exact Nat.min_le_left _ _
  ·exact Nat.zero_le _
end
end Go.Proofs.YtcjagakckffkiaaGreatDoor.dO
namespace Go.Proofs.YtcjagakckffkiaaGreatDoor.dO
open Go.RowKit Go.Proofs.YtcjagakckffkiaaGreatDoor.Fit bL Pnm
section
variable {lo hi q B:Nat} {Z:List Int} {E:Int} {o:Nat} {nm pf lk:ByteArray} {md sz:Int}
set_option maxRecDepth 100000 in
theorem Eg (w:World)(h:eH w lo hi q Z E (o+512) 0)(hp:¬eY ⟨120,nm,pf,lk,md,sz⟩) :
 Calls Tryz.prog 110 #[.pointer (some ⟨q,0,none⟩),.agg (Ust.bA 120 nm pf lk md sz).toArray] w fun e w'=>sg [] o 17 w e w'/\Below w.heap.size w w':=by
 have H:=ad h;have HX:Hid (∀w,Calls Tryz.prog 170 #[.agg (Ust.bA 120 nm pf lk md sz).toArray] w fun e w'=>e= .returned (.bool false)/\Below w.heap.size w w') :=fun w=>qp nm pf lk md sz w false ⟨fun h=> (by cases h),fun h=>absurd h hp⟩;clear h hp;go_enter Tryz.func110,Tryz.ntmps110;go_wp2_with (first| (refine aj rfl 130 _ rfl (Ust.bA 120 nm pf lk md sz) rfl ?_;intro w1 h1 b1;have H1:=ad h1;have B1:=ad b1;have c0:=h1.get 0 rfl;have c1:=h1.get 1 rfl;have c2:=h1.get 2 rfl;have c3:=h1.get 3 rfl;have c4:=h1.get 4 rfl;have c5:=h1.get 5 rfl;clear h1 b1));refine(HX.out w1).mono ?_;rintro e w2 ⟨rfl,b2⟩;have B2:=ad (ar B1.out b2);have R2:=ad (H.out.below B2.out);clear b2 c0 c1 c2 c3 c4 c5;go_wp2_with fail;refine(ka w2 R2.out o rfl).mono ?_;rintro e w3 ⟨rfl,rfl⟩;go_wp2_with fail;go_ret3;exact⟨.nil,B2.out⟩
set_option maxRecDepth 100000 in
theorem CT {s:Nat}(w:World)(h:eH w lo hi q Z E (o+512) 0)(hEE:E=11\/E=4)(hs1:1<=s)(hs2:s<=262144)(hE:eO Z E (o+512) 0 s≠0) :
 Calls Tryz.prog 110 #[.pointer (some ⟨q,0,none⟩),.agg (Ust.bA 120 ir emp emp 0 s).toArray] w fun e w'=>sg [] (mw Z (o+512) 0 s) (eO Z E (o+512) 0 s) w e w'/\eH w' lo hi q Z E (jQ Z (o+512) 0 s) (nP Z E (o+512) 0 s)/\Out lo hi w w':=by
 have H:=ad h;have HEE:=ad hEE;have HS1:=ad hs1;have HS2:=ad hs2;obtain⟨V,hV⟩:=named (eO Z E (o+512) 0 s);obtain⟨P,hP⟩:=named (mw Z (o+512) 0 s);rw[<- hV.out]at hE;rw[<- hV.out,<- hP.out];have hne: (V !=0) =true:=by simp[hE]
 clear h hEE hs1 hs2 hE;go_enter Tryz.func110,Tryz.ntmps110;go_wp2_with (first| (refine aj rfl 130 _ rfl (Ust.bA 120 ir emp emp 0 s) rfl ?_;intro w1 h1 b1;have H1:=ad h1;have B1:=ad b1;have c0:=h1.get 0 rfl;have c1:=h1.get 1 rfl;have c2:=h1.get 2 rfl;have c3:=h1.get 3 rfl;have c4:=h1.get 4 rfl;have c5:=h1.get 5 rfl;clear h1 b1));refine(qp ir emp emp 0 s w1 true ⟨fun _=>kH HS1.out HS2.out,fun _=>rfl⟩).mono ?_;rintro e w2 ⟨rfl,b2⟩;have R2:=ad (H.out.below (ar B1.out b2));have B2:=ad (ar B1.out b2);have H2:=ad (H1.out.below b2 H1.out.lt);have d5:=H2.out.get 5 rfl;clear b2 c0 c1 c2 c3 c4 c5;go_wp2_with fail;refine(cW w2 R2.out).mono ?_;rintro e w3 ⟨rfl,rfl⟩;go_wp2_with fail;refine(iJ (s:Int) w2 R2.out HEE.out).mono ?_;rintro e w3 ⟨⟨b3,c3,rfl,l3,i3,x3,_⟩,r3,u3⟩;rw[<- hV.out,<- hP.out];have R3:=ad r3;have U3:=ad u3;clear l3 i3 x3 r3 u3;go_wp2_with fail;go_ret3;exact⟨.nil,R3.out,(Out.aq B2.out ah).trans U3.out⟩
set_option maxRecDepth 100000 in
theorem Hp {s:Nat}(w:World)(h:eH w lo hi q Z E (o+512) 0)(hEE:E=11\/E=4)(V:MV B w)(hB:B<=lo)(hs1:1<=s)(hs2:s<=262144)(hE:eO Z E (o+512) 0 s=0)(hP: (bL.bh (gw Z (o+512) 0 s)).2.2≠0) :
 Calls Tryz.prog 110 #[.pointer (some ⟨q,0,none⟩),.agg (Ust.bA 120 ir emp emp 0 s).toArray] w fun e w'=>sg [] ((o+512+ (bL.bh (gw Z (o+512) 0 s)).2.1:Nat) :Int) (bL.bh (gw Z (o+512) 0 s)).2.2 w e w'/\eH w' lo hi q Z E (jQ Z (o+512) 0 s) (nP Z E (o+512) 0 s)/\Out lo hi w w':=by
 have H:=ad h;have HEE:=ad hEE;have HS1:=ad hs1;have HS2:=ad hs2;have HV:=ad V;have HB:=ad hB;have HE:=ad hE;have ZB:=ad h.bd;have ho8: (o:Int) +512<=140737488355328:=by have:=ZB.out.1;have:=h.size.2.2.2;omega
 obtain⟨D,hD⟩:=named (gw Z (o+512) 0 s);have DL:Hid (D.length<=262144) :=by show _<=_;rw[hD.out];exact Nat.le_trans (Hq Z (o+512) 0 s) hs2
 have DB:Hid (Bytes D) :=by show Bytes _;rw[hD.out];exact oF ZB.out.2 _ _ _
 obtain⟨V',hV'⟩:=named (bL.bh D).2.2;obtain⟨N,hN⟩:=named (bL.bh D).2.1;rw[<- hD.out,<- hV'.out]at hP;rw[<- hD.out,<- hV'.out,<- hN.out];have hne: (V' !=0) =true:=by simp[hP]
 have hN8: (N:Int)<=262144:=by
  have:=qw D DB.out;have h2:=DL.out;rw[hN.out];omega
 clear h hEE hs1 hs2 hE hP V hB;go_enter Tryz.func110,Tryz.ntmps110;go_wp2_with (first| (refine aj rfl 130 _ rfl (Ust.bA 120 ir emp emp 0 s) rfl ?_;intro w1 h1 b1;have H1:=ad h1;have B1:=ad b1;have c0:=h1.get 0 rfl;have c1:=h1.get 1 rfl;have c2:=h1.get 2 rfl;have c3:=h1.get 3 rfl;have c4:=h1.get 4 rfl;have c5:=h1.get 5 rfl;clear h1 b1));refine(qp ir emp emp 0 s w1 true ⟨fun _=>kH HS1.out HS2.out,fun _=>rfl⟩).mono ?_;rintro e w2 ⟨rfl,b2⟩;have R2:=ad (H.out.below (ar B1.out b2));have B2:=ad (ar B1.out b2);have H2:=ad (H1.out.below b2 H1.out.lt);have d5:=H2.out.get 5 rfl;clear b2 c0 c1 c2 c3 c4 c5;go_wp2_with fail;refine(cW w2 R2.out).mono ?_;rintro e w3 ⟨rfl,rfl⟩;go_wp2_with fail;refine(iJ (s:Int) w2 R2.out HEE.out).mono ?_;rintro e w3 ⟨⟨b3,c3,rfl,l3,i3,x3,_⟩,r3,u3⟩;rw[<- hD.out]at i3 l3;rw[HE.out,<- hD.out];have R3:=ad r3;have U3:=ad ((Out.aq B2.out ah).trans u3);have V3:=ad (HV.out.out U3.out HB.out);go_wp2_with fail;refine(Cn b3 D.length c3 D w3 V3.out.v.f.v rfl DB.out (i3.bytes DB.out) (by have:=DL.out;omega)).mono ?_;rintro e w4 ⟨a4,l4,c4',rfl,e4,f4,g4,h4,b4⟩;rw[<- hV'.out,<- hN.out];have R4:=ad (R3.out.below b4);have U4:Hid (Out lo hi w3 w4) :=Out.aq b4 ah;clear l3 i3 x3 r3 u3 e4 f4 g4 h4 b4;go_wp2_with fail;go_ret3;exact⟨.nil,R4.out,U3.out.trans U4.out⟩
set_option maxRecDepth 100000 in
theorem Iw {s:Nat}(w:World)(h:eH w lo hi q Z E (o+512) 0)(hEE:E=11\/E=4)(V:MV B w)(hB:B<=lo)(hs1:1<=s)(hs2:s<=262144)(hE:eO Z E (o+512) 0 s=0)(hP: (bL.bh (gw Z (o+512) 0 s)).2.2=0) :
 Calls Tryz.prog 110 #[.pointer (some ⟨q,0,none⟩),.agg (Ust.bA 120 ir emp emp 0 s).toArray] w fun e w'=>sg (bL.bh (gw Z (o+512) 0 s)).1 0 0 w e w'/\eH w' lo hi q Z E (jQ Z (o+512) 0 s) (nP Z E (o+512) 0 s)/\Out lo hi w w':=by
 have H:=ad h;have HEE:=ad hEE;have HS1:=ad hs1;have HS2:=ad hs2;have HV:=ad V;have HB:=ad hB;have HE:=ad hE;have ZB:=ad h.bd;obtain⟨D,hD⟩:=named (gw Z (o+512) 0 s);have DL:Hid (D.length<=262144) :=by show _<=_;rw[hD.out];exact Nat.le_trans (Hq Z (o+512) 0 s) hs2
 have DB:Hid (Bytes D) :=by show Bytes _;rw[hD.out];exact oF ZB.out.2 _ _ _
 obtain⟨N,hN⟩:=named (bL.bh D).2.1;obtain⟨L,hL⟩:=named (bL.bh D).1;rw[<- hD.out]at hP;have HP:=ad hP;rw[<- hD.out,<- hL.out];clear h hEE hs1 hs2 hE hP V hB;go_enter Tryz.func110,Tryz.ntmps110;go_wp2_with (first| (refine aj rfl 130 _ rfl (Ust.bA 120 ir emp emp 0 s) rfl ?_;intro w1 h1 b1;have H1:=ad h1;have B1:=ad b1;have c0:=h1.get 0 rfl;have c1:=h1.get 1 rfl;have c2:=h1.get 2 rfl;have c3:=h1.get 3 rfl;have c4:=h1.get 4 rfl;have c5:=h1.get 5 rfl;clear h1 b1));refine(qp ir emp emp 0 s w1 true ⟨fun _=>kH HS1.out HS2.out,fun _=>rfl⟩).mono ?_;rintro e w2 ⟨rfl,b2⟩;have R2:=ad (H.out.below (ar B1.out b2));have B2:=ad (ar B1.out b2);have H2:=ad (H1.out.below b2 H1.out.lt);have d5:=H2.out.get 5 rfl;clear b2 c0 c1 c2 c3 c4 c5;go_wp2_with fail;refine(cW w2 R2.out).mono ?_;rintro e w3 ⟨rfl,rfl⟩;go_wp2_with fail;refine(iJ (s:Int) w2 R2.out HEE.out).mono ?_;rintro e w3 ⟨⟨b3,c3,rfl,l3,i3,x3,_⟩,r3,u3⟩;rw[<- hD.out]at i3 l3;rw[HE.out,<- hD.out];have R3:=ad r3;have U3:=ad ((Out.aq B2.out ah).trans u3);have V3:=ad (HV.out.out U3.out HB.out);go_wp2_with fail;refine(tU b3 D.length c3 D w3 V3.out.v.f.v rfl DB.out (i3.bytes DB.out) (by have:=DL.out;omega)).mono ?_;rintro e w4 ⟨a4,l4,c4',rfl,e4,f4,g4,h4,b4,y4⟩;rw[HP.out,<- hN.out];rw[<- hL.out]at e4 h4;have R4:=ad (R3.out.below b4);have U4:Hid (Out lo hi w3 w4) :=Out.aq b4 ah;have HR4:=ad h4;have E4:=ad e4;have F4:=ad f4;have G4:=ad g4;have Y4:Hid (∀x,a4=some x->w.heap.size<=x.block) :=fun x hx=>Nat.le_trans U3.out.size (y4 x hx);clear l3 i3 x3 r3 u3 e4 f4 g4 h4 b4 y4;go_wp2_with fail;go_ret3;exact⟨⟨a4,l4,c4',rfl,E4.out.symm,F4.out,G4.out,HR4.out,Y4.out⟩,R4.out,U3.out.trans U4.out⟩
theorem qJ (w:World)(h:eH w lo hi q Z E (o+512) 0)(hEE:E=11\/E=4)(V:MV B w)(hB:B<=lo) :
 Calls Tryz.prog 110 #[.pointer (some ⟨q,0,none⟩),.agg (Ust.bA 120 nm pf lk md sz).toArray] w fun e w'=>sg (zG Z E o ⟨120,nm,pf,lk,md,sz⟩) (AU Z E o ⟨120,nm,pf,lk,md,sz⟩:Nat) (tr Z E o ⟨120,nm,pf,lk,md,sz⟩) w e w'/\eH w' lo hi q Z E (lP Z o ⟨120,nm,pf,lk,md,sz⟩) (Et Z E o ⟨120,nm,pf,lk,md,sz⟩)/\Out lo hi w w':=by
 by_cases hp:eY ⟨120,nm,pf,lk,md,sz⟩
 ·obtain⟨h1,h2,h3,h4,h5,h6⟩:=id hp;obtain⟨s,hs⟩:∃s:Nat,sz=s:=⟨sz.toNat,by simp only at h5;omega⟩;simp only at h1 h2 h3 h4 h5 h6;subst h1;subst h2;subst h3;subst h4;subst hs;by_cases hr:eO Z E (o+512) 0 (s:Int) =0
  ·by_cases hq: (bL.bh (gw Z (o+512) 0 (s:Int))).2.2=0
   ·obtain⟨e1,e2,e3,e4,e5⟩:=tS hp hr hq;rw[e1,e2,e3,e4,e5];exact Iw w h hEE V hB (by omega) (by omega) hr hq
   ·obtain⟨e1,e2,e3,e4,e5⟩:=yR hp hr hq;rw[e1,e2,e3,e4,e5];exact Hp w h hEE V hB (by omega) (by omega) hr hq
  ·obtain⟨e1,e2,e3,e4,e5⟩:=vg hp hr;rw[e1,e2,e3,e4,e5];exact CT w h hEE (by omega) (by omega) hr
 ·obtain⟨e1,e2,e3,e4,e5⟩:=yn (Z:=Z) (E:=E) (o:=o) hp;rw[e1,e2,e3,e4,e5];exact(Eg w h hp).mono fun e w' ⟨h1,h2⟩=>⟨h1,h.below h2,Out.aq h2 ah⟩
end
end Go.Proofs.YtcjagakckffkiaaGreatDoor.dO
namespace Go.Proofs.YtcjagakckffkiaaGreatDoor.Ust
open Go.RowKit
open Oct Cst jC
theorem Cv {T:Int}(h:¬known T) : (T==48) =false/\ (T==49) =false/\ (T==50) =false/\ (T==53) =false/\ (T==120) =false:=by
 unfold known at h;simp only[not_or]at h;obtain⟨h1,h2,h3,h4,h5⟩:=h;simp[h1,h2,h3,h4,h5]
end Go.Proofs.YtcjagakckffkiaaGreatDoor.Ust
namespace Go.Proofs.YtcjagakckffkiaaGreatDoor.Cst
open Go.RowKit
def pR (n:Int) :Bool:=decide (1<=n/\n<=256)
theorem cC (n:Int)(w:World) :
 Calls Tryz.prog 228 #[.int .i64 n] w fun e w'=>e= .returned (.bool (pR n))/\w=w':=by
 by_cases h1:1<=n
 ·by_cases h2:n<=256
  ·have h:pR n=true:=by unfold pR;simp[h1,h2]
   rw[h];clear h;go_enter Tryz.func228,Tryz.ntmps228;go_wp2;go_ret;exact⟨rfl,rfl⟩
  ·have h:pR n=false:=by unfold pR;simp[h2]
   rw[h];clear h;go_enter Tryz.func228,Tryz.ntmps228;go_wp2;go_ret;exact⟨rfl,rfl⟩
 ·have h:pR n=false:=by unfold pR;simp[h1]
  rw[h];clear h;go_enter Tryz.func228,Tryz.ntmps228;go_wp2;go_ret;exact⟨rfl,rfl⟩
theorem fT {n:Int}(h1:1<=n)(h2:n<=256) :pR n=true:=by unfold pR;simp[h1,h2]
theorem ja {n:Int}(h:n<1\/256<n) :pR n=false:=by unfold pR;simp;omega
set_option maxRecDepth 20000 in
theorem uB (s:ByteArray)(w:World) :
 Calls Tryz.prog 189 #[.string s,.int .u8 0] w fun e w'=>e= .returned (.int .i64 (Lib.indexByte s.data.toList 0))/\w=w':=by
 go_enter Tryz.func189,Tryz.ntmps189;go_wp2;rw[run_callFunc_extern Tryz.func239 (by kernel_rfl) (by kernel_rfl) (by kernel_rfl) (e:=Extern.BytealgIndexByte.indexByte) (by kernel_rfl),Lib.run_indexByteString s 0 w];simp only[Result.andThen];rw[Oper.upon_value];go_wp2;go_ret;exact⟨rfl,rfl⟩
theorem eG (s:ByteArray)(wd:Int)(w:World) :
 Calls Tryz.prog 246 #[.string s,.int .i64 wd] w fun e w'=>e= .returned (.int .i64 (jd (af s) wd))/\w=w':=by
 have hl:=an s;by_cases h1:wd<1\/256<wd
 ·have hv:=ja h1;have he:jd (af s) wd=2:=by unfold jd;rw[if_pos h1]
  rw[he];clear h1 he;go_enter Tryz.func246,Tryz.ntmps246;go_wp2_with (go_at_call 228;refine(cC _ _).mono ?_;rintro e w' ⟨rfl,rfl⟩);go_ret;exact⟨rfl,rfl⟩
 ·have hv:=fT (n:=wd) (by omega) (by omega);obtain⟨k,HK⟩:=named (Lib.indexByte s.data.toList 0);have hk:=ue s;rw[<- HK.out]at hk;by_cases h2: (0:Int)∈af s
  ·have hp:=hk.2 h2;have he:jd (af s) wd=6:=by unfold jd;rw[if_neg h1,if_pos h2]
   rw[he];clear h1 he hk h2;go_enter Tryz.func246,Tryz.ntmps246;go_wp2_with (first| (go_at_call 228;refine(cC _ _).mono ?_;rintro e w' ⟨rfl,rfl⟩) | (go_at_call 189;refine(uB _ _).mono ?_;rintro e w' ⟨rfl,rfl⟩;rw[<- HK.out]));go_ret;exact⟨rfl,rfl⟩
  ·have hp:¬0<=k:=fun h=>h2 (hk.1 h);by_cases h3:wd<s.size
   ·have he:jd (af s) wd=7:=by unfold jd;rw[if_neg h1,if_neg h2,if_pos (by omega)]
    rw[he];clear h1 he hk h2 hl;go_enter Tryz.func246,Tryz.ntmps246;go_wp2_with (first| (go_at_call 228;refine(cC _ _).mono ?_;rintro e w' ⟨rfl,rfl⟩) | (go_at_call 189;refine(uB _ _).mono ?_;rintro e w' ⟨rfl,rfl⟩;rw[<- HK.out]));go_ret;exact⟨rfl,rfl⟩
   ·have he:jd (af s) wd=0:=by unfold jd;rw[if_neg h1,if_neg h2,if_neg (by omega)]
    rw[he];clear h1 he hk h2 hl;go_enter Tryz.func246,Tryz.ntmps246;go_wp2_with (first| (go_at_call 228;refine(cC _ _).mono ?_;rintro e w' ⟨rfl,rfl⟩) | (go_at_call 189;refine(uB _ _).mono ?_;rintro e w' ⟨rfl,rfl⟩;rw[<- HK.out]));go_ret;exact⟨rfl,rfl⟩
end Go.Proofs.YtcjagakckffkiaaGreatDoor.Cst
namespace Go.Proofs.YtcjagakckffkiaaGreatDoor.Cst
open Go.RowKit
theorem vG (m:Nat) : (madeCells (Value.int .u8 0).cells (m*1)).toList= (List.replicate m (0:Int)).map (.int .u8) :=by
 apply List.ext_getElem?;intro i;by_cases h:i<m<;>simp[madeCells,Value.cells,h,Nat.mod_one]
theorem Tryz.xH: (Tryz.prog.info? 5).map (fun i=> (i.zero,i.size,i.bytes)) =some (some (.int .u8 0),1,1) :=by kernel_rfl
theorem Ab (s:ByteArray)(wd:Int)(w:World)(h: (jd (af s) wd !=0) =true) :
 Calls Tryz.prog 224 #[.string s,.int .i64 wd] w fun e w'=>e= .returned (.tuple #[.slice none 0 0,.int .i64 (jd (af s) wd)])/\w=w':=by
 obtain⟨E,HE⟩:=named (jd (af s) wd);rw[<- HE.out]at h⊢;go_enter Tryz.func224,Tryz.ntmps224;go_wp2_with (go_at_call 246;refine(eG _ _ _).mono ?_;rintro e w' ⟨rfl,rfl⟩;rw[<- HE.out]);go_ret2;exact⟨rfl,rfl⟩
theorem uR (s:ByteArray)(k:Nat)(w:World)(h:jd (af s) k=0) :
 Calls Tryz.prog 224 #[.string s,.int .i64 k] w (Ls (dr (af s) k) k 0 w) :=by
 obtain⟨h1,h2,_,h4⟩:=iY.1 h;rw[an]at h4;have HN:=ad h;clear h;obtain⟨i0,HI⟩:=fO Tryz.xH;go_enter Tryz.func224,Tryz.ntmps224;go_wp2_with (first| (go_at_call 246;refine(eG _ _ _).mono ?_;rintro e w' ⟨rfl,rfl⟩;rw[HN.out]) | (at_make;refine wpList_make_full _ rfl _ _ 25 rfl w.heap.size 5 i0 (.int .u8 0) 1 Tryz.underlying25 HI.out.1 HI.out.2.1 HI.out.2.2.1 .i64 .i64 _ _ k rfl rfl rfl rfl (by rw[HI.out.2.2.2];omega) (by unfold maxLen;omega) ah ?_;intro w1 hown1 hgrow1;rw[vG]at hown1) | (refine lJ rfl _ _ 25 9 rfl w.heap.size 5 i0 Tryz.underlying25 HI w.heap.size k k (List.replicate k 0) rfl hown1 s rfl (by omega) ?_;intro w2 hown2 hb2));go_ret2;have hb1:Below w.heap.size w w1:=aF.grown hgrow1 ah (fun _ h=>by cases h);have e:af s++List.drop s.size (List.replicate k 0) =dr (af s) k:=by unfold dr;rw[List.drop_replicate,an]
 rw[e]at hown2;exact⟨_,_,rfl,.bJ hown2 (Az _ _ (dw s)),(lU hown2).2,hb1.trans hb2,ah,by unfold maxLen;omega⟩
theorem yx (s:ByteArray)(k:Nat)(w:World)(h:jd (af s) k=0) :
 Calls Tryz.prog 224 #[.string s,.int .i64 k] w (xj (dr (af s) k) k 0 w) :=
 (uR s k w h).mono fun _ _ h=>h.ret
end Go.Proofs.YtcjagakckffkiaaGreatDoor.Cst
namespace Go.Proofs.YtcjagakckffkiaaGreatDoor.Ust
open Go.RowKit
open Oct Cst jC
theorem oh (T:Int)(w:World) :Calls Tryz.prog 107 #[.int .u8 T] w fun e w'=>e= .returned (.bool (decide (known T)))/\w=w':=by
 by_cases h:known T
 ·rw[decide_eq_true h];rcases h with rfl|rfl|rfl|rfl|rfl
  all_goals
   go_enter Tryz.func107,Tryz.ntmps107;go_wp2;go_ret;exact⟨rfl,rfl⟩
 ·rw[decide_eq_false h];obtain⟨h1,h2,h3,h4,h5⟩:=Cv h;clear h;go_enter Tryz.func107,Tryz.ntmps107;go_wp2;go_ret;exact⟨rfl,rfl⟩
theorem jb (s:ByteArray)(wd:Int)(k:Nat)(w:World)(hk:wd= (k:Int)) :
 Calls Tryz.prog 198 #[.string s,.int .i64 wd] w fun e w'=>e= .returned (.int .i64 (jd (af s) wd))/\Below w.heap.size w w':=by
 by_cases h:jd (af s) wd=0
 ·have HF:=ad (Cst.uR s k w (hk▸h));rw[<- hk]at HF;rw[h];clear h hk;go_enter Tryz.func198,Tryz.ntmps198;go_wp2_with fail;refine HF.out.mono ?_;rintro e w1 ⟨b,c,rfl,_,_,hb,_,_⟩;have B:=ad hb;clear hb;go_wp2;go_ret;exact⟨rfl,B.out⟩
 ·have HF:=ad (Cst.Ab s wd w (by simp[h]));obtain⟨E,HE⟩:=named (jd (af s) wd);rw[<- HE.out]at HF⊢;clear h hk;go_enter Tryz.func198,Tryz.ntmps198;go_wp2_with fail;refine HF.out.mono ?_;rintro e w1 ⟨rfl,rfl⟩;go_wp2;go_ret;exact⟨rfl,aF⟩
theorem eG (T:Int)(nm pf lk:ByteArray)(md sz:Int)(w:World)(hn:nm.size<=maxLen)(hp:pf.size<=maxLen)(hk:lk.size<=maxLen)(_hT:0<=T/\T<=255) :
 Calls Tryz.prog 148 #[.agg (bA T nm pf lk md sz).toArray] w fun e w'=>e= .returned (.int .i64 (mA T nm pf lk md sz))/\Below w.heap.size w w':=by
 clear _hT;obtain⟨kb,hkb⟩:=named (decide (known T));obtain⟨e1,he1⟩:=named (jd (af nm) 100);obtain⟨e2,he2⟩:=named (jd (af lk) 100);obtain⟨e3,he3⟩:=named (jd (af pf) 155)
 have hck:mA T nm pf lk md sz=if kb=false then 8 else if e1≠0 then e1 else if e2≠0 then e2 else if e3≠0 then e3 else if md<0\/4095<md then 16 else if sz<0\/8589934591<sz then 3 else 0:=by
  rw[hkb.out,he1.out,he2.out,he3.out];unfold mA;simp only[decide_eq_false_iff_not]
 obtain⟨R,hR⟩:=named (mA T nm pf lk md sz);have HR:Hid (R=if kb=false then 8 else if e1≠0 then e1 else if e2≠0 then e2 else if e3≠0 then e3 else if md<0\/4095<md then 16 else if sz<0\/8589934591<sz then 3 else 0) :=by show _=_;rw[hR.out];exact hck
 rw[<- hR.out];clear hck hR;have HN:=ad hn;have HP:=ad hp;have HK:=ad hk;clear hn hp hk;go_enter Tryz.func148,Tryz.ntmps148;go_wp2_with (first| (refine aj rfl 130 _ rfl (bA T nm pf lk md sz) rfl ?_;intro w1 h1 b1;have H1:=ad h1;have B1:=ad b1;have c0:=h1.get 0 rfl;clear h1 b1));refine(oh T w1).mono ?_;rintro e w2 ⟨rfl,rfl⟩;rw[<- hkb.out]
 cases kb with
 |false=>
  go_wp2_with fail;go_ret;exact⟨by have hr:=HR.out;simp at hr;subst hr;rfl,B1.out⟩
 |true=>
  have c1:=H1.out.get 1 rfl;clear c0;go_wp2_with fail;refine(jb nm 100 100 w1 rfl).mono ?_;rintro e w2 ⟨rfl,b2⟩;rw[<- he1.out];have H2:=ad (H1.out.below b2 H1.out.lt);have B2:=ad (B1.out.trans (b2.mono B1.out.size));clear b2 c1;by_cases z1:e1=0
  ·subst z1;have c3:=H2.out.get 3 rfl;go_wp2_with fail;refine(jb lk 100 100 w2 rfl).mono ?_;rintro e w3 ⟨rfl,b3⟩;rw[<- he2.out];have H3:=ad (H2.out.below b3 H2.out.lt);have B3:=ad (B2.out.trans (b3.mono B2.out.size));clear b3 c3;by_cases z2:e2=0
   ·subst z2;have c2:=H3.out.get 2 rfl;go_wp2_with fail;refine(jb pf 155 155 w3 rfl).mono ?_;rintro e w4 ⟨rfl,b4⟩;rw[<- he3.out];have H4:=ad (H3.out.below b4 H3.out.lt);have B4:=ad (B3.out.trans (b4.mono B3.out.size));clear b4 c2;by_cases z3:e3=0
    ·subst z3;have c4:=H4.out.get 4 rfl;have c5:=H4.out.get 5 rfl;by_cases m0:md<0
     ·go_wp2_with fail;go_ret;exact⟨by have hr:=HR.out;simp[m0]at hr;subst hr;rfl,B4.out⟩
     ·by_cases m1:4095<md
      ·go_wp2_with fail;go_ret;exact⟨by have hr:=HR.out;simp[m1]at hr;subst hr;rfl,B4.out⟩
      ·by_cases s0:sz<0
       ·go_wp2_with fail;go_ret;exact⟨by have hr:=HR.out;simp at hr;rw[if_neg (by omega),if_pos (.inl s0)]at hr;subst hr;rfl,B4.out⟩
       ·by_cases s1:8589934591<sz
        ·go_wp2_with fail;go_ret;exact⟨by have hr:=HR.out;simp at hr;rw[if_neg (by omega),if_pos (.inr s1)]at hr;subst hr;rfl,B4.out⟩
        ·go_wp2_with fail;go_ret;exact⟨by have hr:=HR.out;simp at hr;rw[if_neg (by omega),if_neg (by omega)]at hr;subst hr;rfl,B4.out⟩
    ·have n3: (e3 !=0) =true:=by simp[z3]
     go_wp2_with fail;go_ret;exact⟨by have hr:=HR.out;simp[z3]at hr;subst hr;rfl,B4.out⟩
   ·have n2: (e2 !=0) =true:=by simp[z2]
    go_wp2_with fail;go_ret;exact⟨by have hr:=HR.out;simp[z2]at hr;subst hr;rfl,B3.out⟩
  ·have n1: (e1 !=0) =true:=by simp[z1]
   go_wp2_with fail;go_ret;exact⟨by have hr:=HR.out;simp[z1]at hr;subst hr;rfl,B2.out⟩
end Go.Proofs.YtcjagakckffkiaaGreatDoor.Ust
