import Derived.Test.YtcjagakckffkiaaGreatDoorQ5
import Derived.Test.YtcjagakckffkiaaGreatDoorQ15
import Derived.Test.YtcjagakckffkiaaGreatDoorQ1
import Derived.Test.YtcjagakckffkiaaGreatDoorQ0
import Derived.BigQuiet
import Derived.Test.YtcjagakckffkiaaGreatDoorQ14
import Derived.Test.YtcjagakckffkiaaGreatDoorQ8
import Derived.Test.YtcjagakckffkiaaGreatDoorQ9
import Derived.Test.YtcjagakckffkiaaGreatDoorQ12
set_option maxHeartbeats 16000000
namespace Go.Proofs.YtcjagakckffkiaaGreatDoor
open Go.RowKit
def eH (w:World)(lo hi q:Nat)(Z:List Int)(E:Int)(o:Nat)(err:Int) :Prop:=
 ∃s h1 cs r,ak w q 125 [.int .i64 o,.int .i64 err,.pointer (some ⟨s,0,none⟩)]/\Src w lo h1 s Z E cs o r/\lo<=h1/\h1<=q/\q<hi/\hi<=w.heap.size/\o<=Z.length
theorem eH.out {w w':World}{lo hi q lo' hi':Nat}{Z:List Int}{E:Int}{o:Nat}{err:Int}(h:eH w lo hi q Z E o err)(ho:Out lo' hi' w w')(hd:hi<=lo'\/hi'<=lo) :eH w' lo hi q Z E o err:=by
 obtain⟨s,h1,cs,r,k1,k2,k3,k4,k5,k6,k7⟩:=h;exact⟨s,h1,cs,r,k1.out ho (by omega),k2.out ho (by omega),k3,k4,k5,Nat.le_trans k6 ho.size,k7⟩
theorem eH.size {w:World}{lo hi q:Nat}{Z:List Int}{E:Int}{o:Nat}{err:Int}(h:eH w lo hi q Z E o err) :hi<=w.heap.size/\lo<=q/\q<hi/\o<=Z.length:=by
 obtain⟨_,_,_,_,_,_,k3,k4,k5,k6,k7⟩:=h;exact⟨k6,by omega,k5,k7⟩
theorem eH.below {w w':World}{lo hi q:Nat}{Z:List Int}{E:Int}{o:Nat}{err:Int}(h:eH w lo hi q Z E o err)(hb:Below w.heap.size w w') :eH w' lo hi q Z E o err:=
 h.out (lo':=hi) (hi':=hi) (.aq hb ah) (.inl ah)
theorem mT {q:Nat}{T:TypeId}{o n:Nat}{err:Int}{p:Value}(e:Int)(w:World)(h:ak w q T [.int .i64 o,.int .i64 err,p])(ho:o+n<=200000000000000) :
 Calls Tryz.prog 103 #[.pointer (some ⟨q,0,none⟩),.int .i64 n,.int .i64 e] w fun x w'=>x= .returned (.int .i64 e)/\
  ak w' q T [.int .i64 ((o+n:Nat) :Int),.int .i64 e,p]/\Out q (q+1) w w'/\w'.heap.size=w.heap.size:=by
 have H:=ad h;have c0:=h.get 0 rfl;have f0:=h.frozen 0;have c1:=h.get 1 rfl;have f1:=h.frozen 1;have ho': (o:Int) +n<=200000000000000:=by omega
 clear h ho;go_enter Tryz.func103,Tryz.ntmps103;go_wp2_with fail;go_ret;have ev: (o:Int) +n= ((o+n:Nat) :Int) :=by omega
 rw[ev];exact⟨rfl,(H.out.set 0 _).set 1 _,((Out.refl q (q+1) w).setCell (p:=⟨q,0,none⟩) ah (Nat.lt_succ_self _) _).setCell (p:=⟨q,1,none⟩) ah (Nat.lt_succ_self _) _,by simp[World.setCell]⟩
theorem zR {lo hi s:Nat}{Z:List Int}{E:Int}{cs:List Int}(w:World)(h:Src w lo hi s Z E cs 0 0) :
 Calls Tryz.prog 31 #[.pointer (some ⟨s,0,none⟩)] w fun e w'=>∃q,e= .returned (.pointer (some ⟨q,0,none⟩))/\eH w' lo w'.heap.size q Z E 0 0/\Below w.heap.size w w':=by
 have H:=ad h;clear h;go_enter Tryz.func31,Tryz.ntmps31;go_wp2_with (first| (refine aj rfl 125 _ rfl [.int .i64 0,.int .i64 0,.pointer (some ⟨s,0,none⟩)] rfl ?_;intro w1 h1 b1;have H1:=ad h1;have B1:=ad b1;clear h1 b1));go_ret;have hz:=H.out.size;have l1:=H1.out.lt;exact⟨w.heap.size,rfl,⟨s,hi,cs,0,H1.out,H.out.below B1.out,by omega,hz.1,l1,ah,Nat.zero_le _⟩,B1.out⟩
theorem cW {lo hi q:Nat}{Z:List Int}{E:Int}{o:Nat}{err:Int}(w:World)(h:eH w lo hi q Z E o err) :
 Calls Tryz.prog 60 #[.pointer (some ⟨q,0,none⟩)] w fun e w'=>e= .returned (.int .i64 o)/\w=w':=by
 obtain⟨_,_,_,_,k1,_⟩:=h;have c0:=k1.get 0 rfl;clear k1;go_enter Tryz.func60,Tryz.ntmps60;go_wp2;go_ret;exact⟨rfl,rfl⟩
end Go.Proofs.YtcjagakckffkiaaGreatDoor
namespace Go.Proofs.YtcjagakckffkiaaGreatDoor
open Go.RowKit
set_option maxRecDepth 100000 in
theorem dh {lo hi q:Nat}{Z:List Int}{E:Int}{o:Nat}{err:Int}(w:World)(h:eH w lo hi q Z E o err)(hE:E=11\/E=4) :
 Calls Tryz.prog 59 #[.pointer (some ⟨q,0,none⟩)] w fun e w'=>∃b c,e= .returned (.tuple #[.slice b (ye Z o err).length c,.int .i64 (bM Z E o err)])/\
  ((ye Z o err).length<=c/\c<=maxLen)/\eJ .u8 w' b (ye Z o err)/\ (∀x,b=some x->w.heap.size<=x.block)/\eH w' lo hi q Z E (fu Z o err) (bM Z E o err)/\Out lo hi w w':=by
 have H:=ad h;obtain⟨s,h1,cs,r,k1,k2,k3,k4,k5,k6,k9⟩:=h;have c0:=k1.get 0 rfl;have c1:=k1.get 1 rfl;have c2:=k1.get 2 rfl;by_cases he:err=0
 ·subst he;have K1:=ad k1;have K2:=ad k2;have K3:=ad (show lo<=h1/\h1<=q/\q<hi/\hi<=w.heap.size from⟨k3,k4,k5,k6⟩);obtain⟨L,hL⟩:=named Z.length
  have hL8:Hid (L<=140737488355328) :=by
   show _<=_;obtain⟨_,_,_,_,_,_,_,_,_,_,q6,_⟩:=k2;rw[hL.out];exact q6
  have KO:Hid (o<=L) :=by show _<=_;rw[hL.out];exact k9
  have E4:Hid (E=11\/E=4) :=hE;obtain⟨i0,HI⟩:=fO (P:=Tryz.prog) (e:=5) (by kernel_rfl);clear k1 k2 k3 k4 k5 k6 k9 hE;go_enter Tryz.func59,Tryz.ntmps59;go_wp2_with (refine wpList_make_own _ rfl _ _ 25 rfl w.heap.size 5 i0 (.int .u8 0) 1 Tryz.underlying25 HI.out.1 HI.out.2.1 HI.out.2.2.1 .i64 .i64 512 512 rfl rfl rfl (by rw[HI.out.2.2.2];decide) (by decide) ah ?_;intro w1 h1' h2';have OW1:=ad h1';have B1:=ad ((Below.refl w.heap.size w).grown h2' ah (fun _ h=>by cases h));clear h1' h2');have K2':=ad (K2.out.below B1.out);have K1':=ad (K1.out.below B1.out K1.out.lt);go_loopw [4,5,6] (fun v _ _ wr=>∃j r':Nat,j<=512/\o+j<=L/\wr.ownsRow w.heap.size 5 1 v j (((Z.drop o).take j).map (.int .u8))/\ak wr q 125 [.int .i64 ((o+j:Nat) :Int),.int .i64 0,.pointer (some ⟨s,0,none⟩)]/\Src wr lo h1 s Z E cs (o+j) r'/\Out lo hi w wr) (fun v _ _ _=>match v with| .slice _ l _=>512- l|_=>0)
  case atStart=>exact⟨0,r,Nat.zero_le _,KO.out,OW1.out,K1'.out,K2'.out,.aq B1.out ah⟩
  case round=>
   obtain⟨j,r',hj,hoj,hown,hob,href,hout⟩:=hrel;have OB:=ad hob;have RF:=ad href;have OU:=ad hout;have OW:=ad hown;have HOJ:=ad hoj;have JL:Hid (((Z.drop o).take j).length=j) :=by show _=_;rw[List.length_take,List.length_drop,<- hL.out];omega
   obtain⟨va,vc,rfl,_⟩:=bl hown;have c2:=hob.get 2 rfl;clear hob href hout hown hoj;by_cases hlt:j<512
   ·have hlt': (j:Int) <512:=by omega
    by_cases hs:o+j=L
    ·have hL512:¬o+512<=Z.length:=by rw[<- hL.out];omega
     obtain⟨g1,g2,g3⟩:=eR (E:=E) hL512;have G1:=ad g1;have G2:=ad g2;have G3:=ad g3;clear g1 g2 g3 hL512;go_wp2_with fail;refine(CI (512- (j:Int)) wr RF.out (by omega) (by rw[<- hL.out];exact hs)).mono ?_;rintro e w2 ⟨pa,pc,rfl,_,f3,u3⟩;have RF2:=ad f3;have U2:=ad (u3.wide (lo':=lo) (hi':=h1) ah ah);have OB2:=ad (OB.out.out u3 (.inr (by have:=K3.out;omega)));clear f3 u3 c2;have hh:o+j=Z.length:=by rw[<- hL.out];exact hs
     have fin:∀(w5:World) (E':Int),ak w5 q 125 [.int .i64 ((o+j+0:Nat) :Int),.int .i64 E',.pointer (some ⟨s,0,none⟩)]->Out q (q+1) w2 w5->eH w5 lo hi q Z E Z.length E'/\Out lo hi w w5:=by
      intro w5 E' ob h5;have k3:=K3.out;have rf:=RF2.out.out h5 (.inl (by omega));rw[Nat.add_zero,hh]at ob;rw[hh]at rf;refine⟨⟨s,h1,cs,r',ob,rf,by omega,by omega,by omega,?_,ah⟩,?_⟩
      ·have:=OU.out.size;have:=U2.out.size;have h6:w2.heap.size<=w5.heap.size:=h5.size;omega
      ·exact(OU.out.trans (U2.out.wide (by omega) (by omega))).trans (h5.wide (by omega) (by omega))
     have FIN:=ad fin;clear fin;have AL:Hid (o+j+0<=200000000000000) :=by show _<=_;have:=hL8.out;omega
     rcases E4.out with e11|e4
     ·have en: (E==4) =false:=by rw[e11];rfl
      have e5:Hid ((if E=4/\o<Z.length then(5:Int)else E) =E) :=by show _=_;rw[if_neg (by omega)]
      have en0: (E !=0) =true:=by rw[e11];rfl
      clear e11;go_wp2_with fail;refine(mT (n:=0) E w2 OB2.out AL.out).mono ?_;rintro e w3 ⟨rfl,ob3,u3,_⟩;have OB3:=ad ob3;have U3:=ad u3;clear ob3 u3;go_wp2_with fail;go_ret2;rw[G1.out,G2.out,G3.out,e5.out];exact⟨none,0,rfl,⟨Nat.zero_le _,Nat.zero_le _⟩,.inl rfl,(fun x hx=>by cases hx),FIN.out _ _ OB3.out U3.out⟩
     ·have en: (E==4) =true:=by rw[e4];rfl
      have en0: (E !=0) =true:=by rw[e4];rfl
      by_cases hj0:j=0
      ·subst hj0;have e5:Hid ((if E=4/\o<Z.length then(5:Int)else E) =E) :=by show _=_;rw[if_neg (by omega)]
       clear e4;go_wp2_with fail;refine(mT (n:=0) E w2 OB2.out AL.out).mono ?_;rintro e w3 ⟨rfl,ob3,u3,_⟩;have OB3:=ad ob3;have U3:=ad u3;clear ob3 u3;go_wp2_with fail;go_ret2;rw[G1.out,G2.out,G3.out,e5.out];exact⟨none,0,rfl,⟨Nat.zero_le _,Nat.zero_le _⟩,.inl rfl,(fun x hx=>by cases hx),FIN.out _ _ OB3.out U3.out⟩
      ·have hj0': (0:Int) <j:=by omega
       have e5:Hid ((if E=4/\o<Z.length then(5:Int)else E) =5) :=by show _=_;rw[if_pos (by omega)]
       clear e4;go_wp2_with fail;refine(mT (n:=0) 5 w2 OB2.out AL.out).mono ?_;rintro e w3 ⟨rfl,ob3,u3,_⟩;have OB3:=ad ob3;have U3:=ad u3;clear ob3 u3;go_wp2_with fail;go_ret2;rw[G1.out,G2.out,G3.out,e5.out];exact⟨none,0,rfl,⟨Nat.zero_le _,Nat.zero_le _⟩,.inl rfl,(fun x hx=>by cases hx),FIN.out _ _ OB3.out U3.out⟩
    ·have hgo:o+j<L:=by have:=HOJ.out;omega
     have hj5:Hid (o+j<Z.length) :=by show _<_;rw[<- hL.out];exact hgo
     obtain⟨k,hk⟩:=named (jI Z.length cs (o+j) r' (512- (j:Int)));have hb:=wk (cs:=cs) (r:=r') (n:=512- (j:Int)) (by omega) hj5.out;rw[<- hk.out,<- hL.out]at hb;obtain⟨kb1,kb2,kb3⟩:=hb;have HKB:=ad (show 1<=k/\o+j+k<=L/\j+k<=512 by omega);clear kb1 kb2 kb3;go_wp2_with fail;refine(JA (512- (j:Int)) wr RF.out (by omega) hj5.out k hk.out.symm).mono ?_;rintro e w2 ⟨g2,cc2,rfl,o2,f3,u3⟩;have RF3:Hid (Src w2 lo h1 s Z E cs (o+ (j+k)) (r'+1)) := (congrArg (fun p=>Src w2 lo h1 s Z E cs p (r'+1)) (Nat.add_assoc o j k)).mp f3;have U2:=ad u3;have LG:=ad (lU o2);have I2:Hid (eJ .u8 w2 (some ⟨g2,0,none⟩) ((Z.drop (o+j)).take k)) :=eJ.bJ o2;have OB2:=ad (OB.out.out u3 (.inr (by have:=K3.out;omega)));have OW2:=ad (vq OW.out u3 (by have:=K3.out;omega));have KL:Hid (((Z.drop (o+j)).take k).length=k) :=by show _=_;rw[List.length_take,List.length_drop,<- hL.out];have:=HKB.out;omega
     have AL:Hid (o+j+k<=200000000000000) :=by show _<=_;have:=hL8.out;have:=HKB.out;omega
     clear o2 f3 u3 c2;have hk5:j+k<=512:=HKB.out.2.2;go_wp2_with fail;refine(mT (n:=k) 0 w2 OB2.out AL.out).mono ?_;rintro e w4 ⟨rfl,ob4,u4,z4⟩;have OB4:Hid (ak w4 q 125 [.int .i64 ((o+ (j+k) :Nat) :Int),.int .i64 0,.pointer (some ⟨s,0,none⟩)]) := (congrArg (fun p:Nat=>ak w4 q 125 [.int .i64 (p:Int),.int .i64 0,.pointer (some ⟨s,0,none⟩)]) (Nat.add_assoc o j k)).mp ob4;have U4:=ad u4;have RF4:=ad (RF3.out.out u4 (.inl (by have:=K3.out;omega)));have OW4:=ad (vq OW2.out u4 (by have:=K3.out;omega));have I4:=ad (I2.out.out u4 (fun x hx=>by cases hx;have:=K3.out;have:=LG.out;have:=OU.out.size;show g2<q\/q+1<=g2;omega));have HZ4:Hid (w.heap.size<=w4.heap.size) :=Nat.le_trans OU.out.size (Nat.le_trans U2.out.size u4.size);clear ob4 u4;go_wp2_with (first| (at_builtin;refine dD rfl _ _ 25 rfl w.heap.size 5 .u8 1 Tryz.underlying25 Nu _ j ((Z.drop o).take j) rfl OW4.out (some ⟨g2,0,none⟩) k cc2 ((Z.drop (o+j)).take k) rfl I4.out KL.out (by unfold maxLen;omega) (by omega) HZ4.out ?_;intro v3 w3 h3 b3;have ez: (Z.drop o).take j++ (Z.drop (o+j)).take k= (Z.drop o).take (j+k) := (by rw[List.take_add,List.drop_drop]);rw[ez]at h3;have O3:=ad h3;have B3:=ad b3;have OB3:=ad (OB4.out.below b3 (by have:=K3.out;omega));clear h3 b3 ez));go_roundw
     case rel=>
      have k3:=K3.out;have kb:=HKB.out;have ou2:=OU.out.trans (U2.out.wide (lo':=lo) (hi':=hi) (by omega) (by omega));have ou4:=ou2.trans (U4.out.wide (lo':=lo) (hi':=hi) (by omega) (by omega));have ou3:Out lo hi w w3:=⟨B3.out.os.trans ou4.os,B3.out.tape.trans ou4.tape,B3.out.output.trans ou4.output,Nat.le_trans ou4.size B3.out.size,fun x hx hj=> (B3.out.block x hx).trans (ou4.block x hx hj)⟩;have rf:=RF4.out.out (nC (h:=0) B3.out) (.inl (by omega));exact⟨j+k,r'+1,kb.2.2,Nat.le_trans (Nat.le_of_eq (Nat.add_assoc o j k).symm) kb.2.1,O3.out,OB3.out,rf,ou3⟩
     case measure=>
      obtain⟨b',c',rfl,_⟩:=bl O3.out;have:=HKB.out;simp;omega
   ·obtain rfl:j=512:=by omega
    have hL512:o+512<=Z.length:=by rw[<- hL.out];exact HOJ.out
    obtain⟨g1,g2,g3⟩:=fx (E:=E) hL512;have G1:=ad g1;have G2:=ad g2;have G3:=ad g3;clear g1 g2 g3;go_wp2_with fail;go_ret2;rw[G1.out,G2.out,G3.out];obtain⟨b',c',hv,i1,hcap,hmx,_,x1⟩:=bl OW.out;simp only[Value.slice.injEq,true_and]at hv;obtain⟨rfl,rfl⟩:=hv;refine⟨va,vc,by rw[JL.out];rfl,⟨by rw[JL.out];exact hcap,hmx⟩,i1,fun x hx=> (x1 x hx).1,⟨s,h1,cs,r',OB.out,RF.out,K3.out.1,K3.out.2.1,K3.out.2.2.1,Nat.le_trans K3.out.2.2.2 OU.out.size,hL512⟩,OU.out⟩
 ·obtain⟨g1,g2,g3⟩:=Er (Z:=Z) (E:=E) (o:=o) he;rw[g1,g2,g3];have hne: (err !=0) =true:=by simp[he]
  clear g1 g2 g3 k1 k2 k3 k4 k5 k6 k9;go_enter Tryz.func59,Tryz.ntmps59;go_wp2;go_quiet (fail);go_wp2;go_ret2;exact⟨none,0,rfl,⟨Nat.zero_le _,Nat.zero_le _⟩,.inl rfl,(fun x hx=>by cases hx),H.out.below (aO _ _ _),.aq (aO _ _ _) ah⟩
theorem qQ {lo hi q:Nat}{Z:List Int}{E:Int}{o:Nat}{err:Int}(w:World)(h:eH w lo hi q Z E o err)(hE:E=11\/E=4) :
 Calls Tryz.prog 59 #[.pointer (some ⟨q,0,none⟩)] w fun e w'=>∃b c,e= .returned (.tuple #[.slice b (ye Z o err).length c,.int .i64 (bM Z E o err)])/\
  (ye Z o err).length<=c/\eJ .u8 w' b (ye Z o err)/\ (∀x,b=some x->w.heap.size<=x.block)/\eH w' lo hi q Z E (fu Z o err) (bM Z E o err)/\Out lo hi w w':=by
 refine(dh w h hE).mono ?_;rintro e w' ⟨b,c,h1,h2,h3⟩;exact⟨b,c,h1,h2.1,h3⟩
end Go.Proofs.YtcjagakckffkiaaGreatDoor
namespace Go.Proofs.YtcjagakckffkiaaGreatDoor
open Go.RowKit
theorem eH.bd {w:World}{lo hi q:Nat}{Z:List Int}{E:Int}{o:Nat}{err:Int}(h:eH w lo hi q Z E o err) :Z.length<=140737488355328/\Bytes Z:=by
 obtain⟨s,h1,cs,r,k1,k2,k3⟩:=h;refine⟨?_,k2.bytes.1⟩;obtain⟨_,_,_,_,_,_,_,_,_,_,q6,_⟩:=k2;exact q6
set_option maxRecDepth 100000 in
theorem mW {lo hi q:Nat}{Z:List Int}{E:Int}{o:Nat}{err:Int}(n:Nat)(w:World)(h:eH w lo hi q Z E o err)(hE:E=11\/E=4)(hn:n<=4611686018427387904) :
 Calls Tryz.prog 66 #[.pointer (some ⟨q,0,none⟩),.int .i64 n] w fun e w'=>∃v,e= .returned (.tuple #[v,.int .i64 (jY Z E o err n)])/\
  w'.ownsRow w.heap.size 5 1 v (JH Z o err n).length ((JH Z o err n).map (.int .u8))/\eH w' lo hi q Z E (rJ Z o err n) (Ig Z E o err n)/\Out lo hi w w':=by
 have H:=ad h;have HE:=ad hE;have HZ:=ad h.bd;have HS:=ad h.size;have hn': (n:Int)<=4611686018427387904:=by omega
 clear h hE hn;go_enter Tryz.func66,Tryz.ntmps66;go_wp2_with fail;go_loopw [6,10] (fun v i wr=>∃(j D:Nat),j<=n/\D=512*j/\i= .int .i64 j/\ (0<j->err=0)/\o+D<=Z.length/\wr.ownsRow w.heap.size 5 1 v D (((Z.drop o).take D).map (.int .u8))/\eH wr lo hi q Z E (o+D) err/\Out lo hi w wr) (fun _ i _=>n- (intOf i).toNat)
 case atStart=>exact⟨0,0,Nat.zero_le _,rfl,rfl,fun h=>absurd h (Nat.lt_irrefl _),HS.out.2.2.2,kA _ _ _ _,H.out,.refl _ _ _⟩
 case round=>
  obtain⟨j,D,hj,hD,rfl,hj0,hoj,hown,hrd,hout⟩:=hrel;have HJ:=ad hj;have HD:=ad hD;have HJ0:=ad hj0;have HO:=ad hoj;have OW:=ad hown;have RR:=ad hrd;have OU:=ad hout;clear hj hD hj0 hoj hown hrd hout;by_cases hlt:j<n
  ·have hlt': (j:Int) <n:=by omega
   by_cases he:err=0
   ·by_cases hgo:o+D+512<=Z.length
    ·subst he;obtain⟨g1,g2,g3⟩:=fx (E:=E) hgo;have gl: (ye Z (o+D) 0).length=512:=by rw[g1,List.length_take,List.length_drop];omega
     have GL:=ad gl;have G1:=ad g1;have HG:=ad hgo;go_wp2_with fail;refine(qQ wr RR.out HE.out).mono ?_;rintro e w2 ⟨b2,c2,rfl,l2,i2,x2,r2,u2⟩;rw[g2,g3]at r2;rw[g2,gl];have I2:=ad i2;have R2:Hid (eH w2 lo hi q Z E (o+ (D+512)) 0) := (congrArg (fun p=>eH w2 lo hi q Z E p 0) (Nat.add_assoc o D 512)).mp r2;have U2:=ad u2;have OW2:=ad (vq OW.out u2 (Nat.le_trans (Nat.le_of_eq rfl) H.out.size.1));have Z2:Hid (w.heap.size<=w2.heap.size) :=Nat.le_trans OU.out.size u2.size;have DB:Hid (D+512<=140737488355328) :=by show _<=_;have:=HZ.out.1;have:=HG.out;omega
     clear l2 i2 x2 r2 u2 g1 g2 g3 gl hgo;go_wp2_with (first| (at_builtin;refine dD rfl _ _ 25 rfl w.heap.size 5 .u8 1 Tryz.underlying25 Nu _ D ((Z.drop o).take D) rfl OW2.out b2 512 c2 (ye Z (o+D) 0) rfl I2.out GL.out (by have:=DB.out;unfold maxLen;omega) (by have:=DB.out;omega) Z2.out ?_;intro v3 w3 h3 b3;have ez: (Z.drop o).take D++ye Z (o+D) 0= (Z.drop o).take (D+512) := (by rw[G1.out,List.take_add,List.drop_drop]);rw[ez]at h3;have O3:=ad h3;have B3:=ad b3;clear h3 b3 ez));go_roundw
     case rel=>
      have ou2:=OU.out.trans U2.out;have ou3:Out lo hi w w3:=⟨B3.out.os.trans ou2.os,B3.out.tape.trans ou2.tape,B3.out.output.trans ou2.output,Nat.le_trans ou2.size B3.out.size,fun x hx hj=> (B3.out.block x hx).trans (ou2.block x hx hj)⟩;exact⟨j+1,D+512,by omega,by have:=HD.out;omega,by go_num,fun _=>by trivial,by have:=HG.out;omega,O3.out,R2.out.out (nC (h:=0) B3.out) (.inl HS.out.1),ou3⟩
     case measure=>simp[intOf];omega
    ·subst he;obtain⟨p1,p2,p3,p4⟩:=Kb (Z:=Z) (E:=E) (o:=o) (n:=n) (j:=j) (by have:=HD.out;have:=HO.out;omega) (by have:=HD.out;omega) hlt;rw[<- HD.out]at p1 p2 p3;have hb:ye Z (o+D) 0= [] := (eR (E:=E) hgo).1
     have hne: (bM Z E (o+D) 0 !=0) =true:=by
      rw[(eR (E:=E) hgo).2.1];have:=HE.out
      split
      ·rfl
      ·rcases this with h|h<;>rw[h] <;>rfl
     obtain⟨V,hV⟩:=named (bM Z E (o+D) 0);rw[<- hV.out]at p1 p3 hne;have P1:=ad p1;have P2:=ad p2;have P3:=ad p3;have P4:=ad p4;clear p1 p2 p3 p4 hgo;go_wp2_with fail;refine(qQ wr RR.out HE.out).mono ?_;rintro e w2 ⟨b2,c2,rfl,l2,i2,x2,r2,u2⟩;rw[<- hV.out]at r2;rw[<- hV.out,hb];have R2:=ad r2;have U2:=ad u2;clear l2 i2 x2 r2 u2 hb;go_wp2_with fail;go_ret2;rw[P1.out,P2.out,P3.out,P4.out];exact⟨_,rfl,kA _ _ _ _,R2.out,OU.out.trans U2.out⟩
   ·obtain⟨p1,p2,p3,p4⟩:=OH (Z:=Z) (E:=E) (o:=o) he (show 0<n by omega);have P1:=ad p1;have P2:=ad p2;have P3:=ad p3;have P4:=ad p4
    have hj0:j=0:=by
     rcases Nat.eq_zero_or_pos j with h|h
     ·exact h
     ·exact absurd (HJ0.out h) he
    have hD0:D=0:=by have:=HD.out;omega
    subst hD0;obtain⟨g1,g2,g3⟩:=Er (Z:=Z) (E:=E) (o:=o+0) he;have hne: (err !=0) =true:=by simp[he]
    clear p1 p2 p3 p4 hj0;go_wp2_with fail;refine(qQ wr RR.out HE.out).mono ?_;rintro e w2 ⟨b2,c2,rfl,l2,i2,x2,r2,u2⟩;rw[g2,g3]at r2;rw[g2,g1];have R2:=ad r2;have U2:=ad u2;clear l2 i2 x2 r2 u2 g1 g2 g3 he;go_wp2_with fail;go_ret2;rw[P1.out,P2.out,P3.out,P4.out];exact⟨_,rfl,kA _ _ _ _,R2.out,OU.out.trans U2.out⟩
  ·obtain rfl:j=n:=by have:=HJ.out;omega
   have hok:dM Z o err j:=by
    rcases Nat.eq_zero_or_pos j with h|h
    ·exact .inl h
    ·exact .inr ⟨HJ0.out h,by have:=HD.out;have:=HO.out;omega⟩
   obtain⟨p1,p2,p3,p4⟩:=zB (E:=E) hok;rw[<- HD.out]at p2 p4;have pl: ((Z.drop o).take D).length=D:=by rw[List.length_take,List.length_drop];have:=HO.out;omega
   have P1:=ad p1;have P2:=ad p2;have P3:=ad p3;have P4:=ad p4;have PL:=ad pl;clear p1 p2 p3 p4 pl hok;go_wp2_with fail;go_ret2;rw[P1.out,P2.out,P3.out,P4.out,PL.out];exact⟨_,rfl,OW.out,RR.out,OU.out⟩
end Go.Proofs.YtcjagakckffkiaaGreatDoor
namespace Go.Proofs.YtcjagakckffkiaaGreatDoor
open Go.RowKit
structure Of (S:World->Prop) where
 w:World
 h:S w
theorem aC {P:Program}{id:Nat}{Q:Exit->Act->World->Prop}{a:Act}{w:World}{l:List Oper}{S:World->Prop}(hm:P.follows .mixedOrders=true)(hB:Region.lexB .any l.toArray=true)(hS:S w.drew)
 (h:Nonempty (Of S)->wpQuiet P l.toArray (fun w'=>∃q:Of S,w'=q.w) (fun a'=>∀w',(∃q:Of S,w'=q.w)->Q .normal a' w') l a) : (Code.region id l.toArray true).wp P Q a w:=
 wp_region_quiet (C:=fun w'=>∃q:Of S,w'=q.w) hm hB ⟨⟨w.drew,hS⟩,rfl⟩ (by simpa using h ⟨⟨w.drew,hS⟩⟩)
theorem Calls.gT {P:Program}{f:FuncId}{args:Array Value}{S:World->Prop}{q:Of S}{v:Value}
 (h:Calls P f args q.w fun e w'=>e= .returned v/\Below q.w.heap.size q.w w')(hS:∀w',Below q.w.heap.size q.w w'->S q.w->S w') :
 Calls P f args q.w fun e w''=>e= .returned v/\∃q':Of S,w''=q'.w:=
 h.mono fun _ w' h=>⟨h.1,⟨w',hS w' h.2 q.h⟩,rfl⟩
theorem Calls.kU {P:Program}{f:FuncId}{args:Array Value}{S:World->Prop}{q:Of S}{v:Value}
 (h:∀w,S w->Calls P f args w fun e w'=>e= .returned v/\Below w.heap.size w w')(hS:∀w',Below q.w.heap.size q.w w'->S q.w->S w') :
 Calls P f args q.w fun e w''=>e= .returned v/\∃q':Of S,w''=q'.w:=Calls.gT (h q.w q.h) hS
end Go.Proofs.YtcjagakckffkiaaGreatDoor
namespace Go.Proofs.YtcjagakckffkiaaGreatDoor.dO
open Go.RowKit Go.Proofs.YtcjagakckffkiaaGreatDoor.Fit bL Pnm
theorem ka {lo hi q:Nat}{Z:List Int}{E:Int}{o:Nat}{err:Int}(w:World)(h:eH w lo hi q Z E o err)(p:Nat)(hp:o=p+512) :
 Calls Tryz.prog 61 #[.pointer (some ⟨q,0,none⟩)] w fun e w'=>e= .returned (.int .i64 p)/\w=w':=by
 have ho8: (o:Int)<=140737488355328:=by have:=h.bd.1;have:=h.size.2.2.2;omega
 have ho5: (512:Int)<=o:=by omega
 go_enter Tryz.func61,Tryz.ntmps61;go_wp2_with fail;refine(cW w h).mono ?_;rintro e w1 ⟨rfl,rfl⟩;go_wp2_with fail;go_ret;exact⟨rfl,rfl⟩
theorem JS (nm pf lk:ByteArray)(md sz:Int)(w:World) :
 (Op.equalIn 10000 130 (.agg (Ust.bA 120 nm pf lk md sz).toArray) (.agg (Ust.bA 120 ir emp emp 0 sz).toArray)).run Tryz.prog w= .ok (decide (nm=ir/\pf=emp/\lk=emp/\md=0)) w:=by
 rw[Ust.zy 130 Tryz.underlying130 (by kernel_rfl)]
 congr 1
 simp
set_option maxRecDepth 100000 in
theorem qp (nm pf lk:ByteArray)(md sz:Int)(w:World)(b:Bool)(hb:b=true↔eY ⟨120,nm,pf,lk,md,sz⟩) :
 Calls Tryz.prog 170 #[.agg (Ust.bA 120 nm pf lk md sz).toArray] w fun e w'=>e= .returned (.bool b)/\Below w.heap.size w w':=by
 have HQ:=ad (JS nm pf lk md sz);have gH:Tryz.prog.eqGuardType Tryz.prog.depth 130=false:=by kernel_rfl
 by_cases g1:sz<1
 ·obtain rfl:b=false:=by
   cases b with
   |false=>rfl
   |true=>have:= (hb.1 rfl).2.2.2.2.1;simp only at this;omega
  have d1:decide (1<=sz) =false:=decide_eq_false (by omega);have d1':¬1<=sz:=by omega
  clear hb HQ g1;go_enter Tryz.func170,Tryz.ntmps170;go_wp2_with (first| (refine aj rfl 130 _ rfl (Ust.bA 120 nm pf lk md sz) rfl ?_;intro w1 h1 b1;have H1:=ad h1;have B1:=ad b1;have c0:=h1.get 0 rfl;have c1:=h1.get 1 rfl;have c2:=h1.get 2 rfl;have c3:=h1.get 3 rfl;have c4:=h1.get 4 rfl;have c5:=h1.get 5 rfl;clear h1 b1));go_quiet (fail);go_wp2;go_ret;exact⟨rfl,B1.out.trans (aO _ _ _)⟩
 by_cases g2:262144<sz
 ·obtain rfl:b=false:=by
   cases b with
   |false=>rfl
   |true=>have:= (hb.1 rfl).2.2.2.2.2;simp only at this;omega
  have d1:decide (1<=sz) =true:=decide_eq_true (by omega);have d2:decide (sz<=262144) =false:=decide_eq_false (by omega);have d1':1<=sz:=by omega
  have d2':¬sz<=262144:=by omega
  clear hb HQ g1 g2;go_enter Tryz.func170,Tryz.ntmps170;go_wp2_with (first| (refine aj rfl 130 _ rfl (Ust.bA 120 nm pf lk md sz) rfl ?_;intro w1 h1 b1;have H1:=ad h1;have B1:=ad b1;have c0:=h1.get 0 rfl;have c1:=h1.get 1 rfl;have c2:=h1.get 2 rfl;have c3:=h1.get 3 rfl;have c4:=h1.get 4 rfl;have c5:=h1.get 5 rfl;clear h1 b1));go_quiet (fail);go_wp2;go_ret;exact⟨rfl,B1.out.trans (aO _ _ _)⟩
 have d1:decide (1<=sz) =true:=decide_eq_true (by omega);have d2:decide (sz<=262144) =true:=decide_eq_true (by omega);have d1':1<=sz:=by omega
 have d2':sz<=262144:=by omega
 by_cases h1:nm=ir/\pf=emp/\lk=emp/\md=0
 ·obtain rfl:b=true:=hb.2 ⟨h1.1,h1.2.1,h1.2.2.1,h1.2.2.2,d1',d2'⟩;clear hb g1 g2;have hq:∀w:World,(Op.equalIn 10000 130 (.agg (Ust.bA 120 nm pf lk md sz).toArray) (.agg (Ust.bA 120 ir emp emp 0 sz).toArray)).run Tryz.prog w= .ok true w:=fun w=>by rw[HQ.out w,decide_eq_true h1]
  clear h1 HQ;go_enter Tryz.func170,Tryz.ntmps170;go_wp2_with (first| (refine aj rfl 130 _ rfl (Ust.bA 120 nm pf lk md sz) rfl ?_;intro w1 h1 b1;have H1:=ad h1;have B1:=ad b1;have c0:=h1.get 0 rfl;have c1:=h1.get 1 rfl;have c2:=h1.get 2 rfl;have c3:=h1.get 3 rfl;have c4:=h1.get 4 rfl;have c5:=h1.get 5 rfl;clear h1 b1))
  have KS:Hid (∀w',Below w1.heap.size w1 w'-> (fun w'=>w'.cell? ⟨w.heap.size,0,none⟩=some (.int .u8 120)/\w'.cell? ⟨w.heap.size,1,none⟩=some (.string nm)/\w'.cell? ⟨w.heap.size,2,none⟩=some (.string pf)/\w'.cell? ⟨w.heap.size,3,none⟩=some (.string lk)/\w'.cell? ⟨w.heap.size,4,none⟩=some (.int .i64 md)/\w'.cell? ⟨w.heap.size,5,none⟩=some (.int .i64 sz)) w') :=fun w' hb=>by
   have h:=H1.out.below hb H1.out.lt;exact⟨h.get 0 rfl,h.get 1 rfl,h.get 2 rfl,h.get 3 rfl,h.get 4 rfl,h.get 5 rfl⟩
  clear c0 c1 c2 c3 c4 c5;refine wp_region_held_drew (S:= (fun w'=>w'.cell? ⟨w.heap.size,0,none⟩=some (.int .u8 120)/\w'.cell? ⟨w.heap.size,1,none⟩=some (.string nm)/\w'.cell? ⟨w.heap.size,2,none⟩=some (.string pf)/\w'.cell? ⟨w.heap.size,3,none⟩=some (.string lk)/\w'.cell? ⟨w.heap.size,4,none⟩=some (.int .i64 md)/\w'.cell? ⟨w.heap.size,5,none⟩=some (.int .i64 sz))) (by kernel_rfl) (KS.out _ aF.drew) (fun hHeld=>?_);refine aJ 0 (h:=aJ 1 (h:=aJ 2 (h:=aJ 3 (h:=?_))));simp only[Act.put,bB,bC,bD];refine aJ 4 (h:=aJ 5 (h:=aJ 6 (h:=aJ 7 (h:=?_))));simp only[Act.put,bB,bC,bD];refine aJ 8 (h:=aJ 9 (h:=aJ 10 (h:=aJ 11 (h:=?_))));simp only[Act.put,bB,bC,bD];refine rd 12 fun K hK=>?_;go_simp;refine(vk sz _).mono ?_;rintro e w2 ⟨rfl,b2⟩;have D2:=ad ((Below.refl w1.heap.size w1).drew.trans b2);clear b2;go_wp2_with fail;refine hK.out _ _ (KS.out _ D2.out) (fun hHeld=>?_);clear hK K
  (try simp only[Act.put,bB,bC,bD])
  refine aJ 13 (h:=aJ 14 (h:=aJ 15 (h:=?_)));simp only[Act.put,bB,bC,bD];refine wpAnyH_done (by kernel_rfl) ?_ _;go_wp2;go_ret;exact⟨rfl,B1.out.trans (D2.out.mono B1.out.size)⟩
 ·obtain rfl:b=false:=by
   cases b with
   |false=>rfl
   |true=>have:=hb.1 rfl;exact absurd ⟨this.1,this.2.1,this.2.2.1,this.2.2.2.1⟩ h1
  clear hb g1 g2;have hq:∀w:World,(Op.equalIn 10000 130 (.agg (Ust.bA 120 nm pf lk md sz).toArray) (.agg (Ust.bA 120 ir emp emp 0 sz).toArray)).run Tryz.prog w= .ok false w:=fun w=>by rw[HQ.out w,decide_eq_false h1]
  clear h1 HQ;go_enter Tryz.func170,Tryz.ntmps170;go_wp2_with (first| (refine aj rfl 130 _ rfl (Ust.bA 120 nm pf lk md sz) rfl ?_;intro w1 h1 b1;have H1:=ad h1;have B1:=ad b1;have c0:=h1.get 0 rfl;have c1:=h1.get 1 rfl;have c2:=h1.get 2 rfl;have c3:=h1.get 3 rfl;have c4:=h1.get 4 rfl;have c5:=h1.get 5 rfl;clear h1 b1))
  have KS:Hid (∀w',Below w1.heap.size w1 w'-> (fun w'=>w'.cell? ⟨w.heap.size,0,none⟩=some (.int .u8 120)/\w'.cell? ⟨w.heap.size,1,none⟩=some (.string nm)/\w'.cell? ⟨w.heap.size,2,none⟩=some (.string pf)/\w'.cell? ⟨w.heap.size,3,none⟩=some (.string lk)/\w'.cell? ⟨w.heap.size,4,none⟩=some (.int .i64 md)/\w'.cell? ⟨w.heap.size,5,none⟩=some (.int .i64 sz)) w') :=fun w' hb=>by
   have h:=H1.out.below hb H1.out.lt;exact⟨h.get 0 rfl,h.get 1 rfl,h.get 2 rfl,h.get 3 rfl,h.get 4 rfl,h.get 5 rfl⟩
  clear c0 c1 c2 c3 c4 c5;refine wp_region_held_drew (S:= (fun w'=>w'.cell? ⟨w.heap.size,0,none⟩=some (.int .u8 120)/\w'.cell? ⟨w.heap.size,1,none⟩=some (.string nm)/\w'.cell? ⟨w.heap.size,2,none⟩=some (.string pf)/\w'.cell? ⟨w.heap.size,3,none⟩=some (.string lk)/\w'.cell? ⟨w.heap.size,4,none⟩=some (.int .i64 md)/\w'.cell? ⟨w.heap.size,5,none⟩=some (.int .i64 sz))) (by kernel_rfl) (KS.out _ aF.drew) (fun hHeld=>?_);refine aJ 0 (h:=aJ 1 (h:=aJ 2 (h:=aJ 3 (h:=?_))));simp only[Act.put,bB,bC,bD];refine aJ 4 (h:=aJ 5 (h:=aJ 6 (h:=aJ 7 (h:=?_))));simp only[Act.put,bB,bC,bD];refine aJ 8 (h:=aJ 9 (h:=aJ 10 (h:=aJ 11 (h:=?_))));simp only[Act.put,bB,bC,bD];refine rd 12 fun K hK=>?_;go_simp;refine(vk sz _).mono ?_;rintro e w2 ⟨rfl,b2⟩;have D2:=ad ((Below.refl w1.heap.size w1).drew.trans b2);clear b2;go_wp2_with fail;refine hK.out _ _ (KS.out _ D2.out) (fun hHeld=>?_);clear hK K
  (try simp only[Act.put,bB,bC,bD])
  refine aJ 13 (h:=aJ 14 (h:=aJ 15 (h:=?_)));simp only[Act.put,bB,bC,bD];refine wpAnyH_done (by kernel_rfl) ?_ _;go_wp2;go_ret;exact⟨rfl,B1.out.trans (D2.out.mono B1.out.size)⟩
end Go.Proofs.YtcjagakckffkiaaGreatDoor.dO
namespace Go.Proofs.YtcjagakckffkiaaGreatDoor.dO
open Go.RowKit Go.Proofs.YtcjagakckffkiaaGreatDoor.Fit bL
structure MV (B:Nat) (w:World) :Prop where
 v:fb w
 s:B<=w.heap.size
 g:3<B/\2<B/\0<B/\4<B/\5<B
structure FV (B:Nat) (w:World) :Prop where
 v:dF w
 s:B<=w.heap.size
 g:3<B/\2<B/\0<B
theorem vp {w:World}{g:Nat}{n:String}{cs:Array Value}(hg:Tryz.prog.globalNamed n=some g)(h:w.var? Tryz.prog n=some cs) :g<w.heap.size:=by
 unfold World.var? at h;rw[hg]at h;rcases Nat.lt_or_ge g w.heap.size with h'|h'
 ·exact h'
 ·simp[Array.getElem?_eq_none h']at h
theorem kZ {w w':World}{B g:Nat}{n:String}{cs:Array Value}(hg:Tryz.prog.globalNamed n=some g)(h:w.var? Tryz.prog n=some cs)(hb:Below B w w')(hB:g<B) :w'.var? Tryz.prog n=some cs:=by
 unfold World.var? at h⊢;rw[hg]at h⊢;rw[<- h];simp only[Option.bind_some];rw[hb.block g hB]
theorem FV.of {w:World}(h:dF w) :FV w.heap.size w:=⟨h,ah,zk h.v.Ir,vz h.v.k0,vp yA h.Qf⟩
theorem MV.of {w:World}(h:fb w) :MV w.heap.size w:=by
 obtain⟨f,⟨a,b,c⟩,⟨d,e,g⟩⟩:=h;exact⟨⟨f,⟨a,b,c⟩,⟨d,e,g⟩⟩,ah,zk f.v.Ir,vz f.v.k0,vp yA f.Qf,vp Fl c,vp DU g⟩
theorem FV.below {B:Nat}{w w':World}(h:FV B w)(hb:Below B w w') :FV B w':=by
 obtain⟨⟨v,t⟩,s,g1,g2,g3⟩:=h;refine⟨⟨⟨?_,(hb.cell (p:=⟨2,0,none⟩) g2).trans v.k0,(hb.cell (p:=⟨2,1,none⟩) g2).trans v.k1,(hb.cell (p:=⟨2,2,none⟩) g2).trans v.k2⟩,kZ yA t hb g3⟩,Nat.le_trans s hb.size,g1,g2,g3⟩;exact kZ (by kernel_rfl:Tryz.prog.globalNamed "internal/strconv.uint64pow10"=some 3) v.Ir hb g1
theorem MV.f {B:Nat}{w:World}(h:MV B w) :FV B w:=⟨h.v.f,h.s,h.g.1,h.g.2.1,h.g.2.2.1⟩
theorem MV.below {B:Nat}{w w':World}(h:MV B w)(hb:Below B w w') :MV B w':=by
 have f:=h.f.below hb;obtain⟨⟨_,⟨a,b,c⟩,⟨d,e,g⟩⟩,s,g1,g2,g3,g4,g5⟩:=h;exact⟨⟨f.v,⟨a,b,kZ Fl c hb g4⟩,⟨d,e,kZ DU g hb g5⟩⟩,f.s,g1,g2,g3,g4,g5⟩
theorem FV.go {B:Nat}{w w':World}(h:FV B w)(hb:Below w.heap.size w w') :FV B w':=h.below (hb.mono h.s)
theorem MV.go {B:Nat}{w w':World}(h:MV B w)(hb:Below w.heap.size w w') :MV B w':=h.below (hb.mono h.s)
theorem MV.out {B lo hi:Nat}{w w':World}(h:MV B w)(ho:Out lo hi w w')(hB:B<=lo) :MV B w':=h.below (ho.below hB h.s)
theorem gR {W:World}{a b c d:String×DataW Unit}(h:laidMetH Tryz.prog [a,b,("internal/strconv.uint64pow10",Rows.laid_internal_strconv_uint64pow10),c,("strconv.ErrRange",Rows.laid_strconv_ErrRange),("strconv.ErrSyntax",Rows.laid_strconv_ErrSyntax),("paxtar/paxrec.keys",Rows.laid_paxtar_paxrec_keys),("paxtar/fit.types",Rows.laid_paxtar_fit_types),d] W)
 (hp: ([a,b,("internal/strconv.uint64pow10",Rows.laid_internal_strconv_uint64pow10),c,("strconv.ErrRange",Rows.laid_strconv_ErrRange),("strconv.ErrSyntax",Rows.laid_strconv_ErrSyntax),("paxtar/paxrec.keys",Rows.laid_paxtar_paxrec_keys),("paxtar/fit.types",Rows.laid_paxtar_fit_types),d].all fun x=>x.2.handleName?.isNone) =true) :fb W:=by
 rw[MakeChecks.laidMetH_plain _ _ _ hp]at h;have h1:=h.tail.tail;have h2:=h1.tail.tail;have h3:=h2.tail;have h4:=h3.tail;obtain⟨k0,k1,k2⟩:=mZ h4;obtain⟨a0,s0,hr,-,-,-⟩:=laid_sentinel h2 DU (by kernel_rfl: (Tryz.prog.globals[5]?).map (·.type) =some 279) Tryz.underlying279 KZ Tryz.underlying333 Tryz.underlying335 rfl rfl Tryz.underlying9 (by kernel_rfl) (by kernel_rfl);obtain⟨a1,s1,hs,-,-,-⟩:=laid_sentinel h3 Fl (by kernel_rfl: (Tryz.prog.globals[4]?).map (·.type) =some 279) Tryz.underlying279 KZ Tryz.underlying333 Tryz.underlying335 rfl rfl Tryz.underlying9 (by kernel_rfl) (by kernel_rfl);exact⟨⟨⟨pv h1,k0,k1,k2⟩,pz h4.tail⟩,⟨_,_,hs⟩,⟨_,_,hr⟩⟩
end Go.Proofs.YtcjagakckffkiaaGreatDoor.dO
