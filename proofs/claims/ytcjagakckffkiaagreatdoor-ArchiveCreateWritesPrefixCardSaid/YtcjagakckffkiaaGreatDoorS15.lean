import Derived.Test.YtcjagakckffkiaaGreatDoorS14
import Derived.Test.YtcjagakckffkiaaGreatDoorS13
import Derived.Deep.DeepCutAuto
set_option maxHeartbeats 16000000
set_option maxRecDepth 100000
namespace Go.Proofs.YtcjagakckffkiaaGreatDoor
section
open Go.RowKit
structure aZ (S:Nat->Prop) (w w':World) :Prop where
 os:w'.os=w.os
 tape:w'.tape=w.tape
 output:w'.output=w.output
 size:w.heap.size<=w'.heap.size
 block:∀k,k<w.heap.size->¬S k->w'.heap[k]? =w.heap[k]?
theorem aZ.refl (S:Nat->Prop)(w:World) :aZ S w w:=⟨rfl,rfl,rfl,aj,fun _ _ _=>rfl⟩
theorem aZ.trans {S:Nat->Prop}{a b c:World}(h:aZ S a b)(k:aZ S b c) :aZ S a c:=
 ⟨k.os.trans h.os,k.tape.trans h.tape,k.output.trans h.output,Nat.le_trans h.size k.size,fun i hi hj=> (k.block i (Nat.lt_of_lt_of_le hi h.size) hj).trans (h.block i hi hj)⟩
theorem aZ.mono {S T:Nat->Prop}{w w':World}(h:aZ S w w')(hST:∀k,k<w.heap.size->S k->T k) :aZ T w w':=⟨h.os,h.tape,h.output,h.size,fun k hk hj=>h.block k hk fun hs=>hj (hST k hk hs)⟩
theorem aZ.aW {S:Nat->Prop}{B:Nat}{w w':World}(h:Below B w w')(hB:w.heap.size<=B) :aZ S w w':=⟨h.os,h.tape,h.output,h.size,fun k hk _=>h.block k (Nat.lt_of_lt_of_le hk hB)⟩
theorem aZ.below {S:Nat->Prop}{B:Nat}{w w':World}(h:aZ S w w')(hS:∀k,S k->B<=k)(hw:B<=w.heap.size) :Below B w w':=⟨h.os,h.tape,h.output,h.size,fun k hk=>h.block k (Nat.lt_of_lt_of_le hk hw) fun hs=>by have:=hS k hs;omega⟩
theorem aZ.setCell {S:Nat->Prop}{a w:World}(h:aZ S a w){p:Addr}(hp:S p.block\/a.heap.size<=p.block)(v:Value) :aZ S a (w.setCell p v) :=
 ⟨h.os,h.tape,h.output,by simpa [World.setCell]using h.size,fun k hk hj=> (Below.heap_setCell w p v k (by rintro rfl;rcases hp with hp|hp;exact hj hp;omega)).trans (h.block k hk hj)⟩
theorem an.only {S:Nat->Prop}{w w':World}{g:Nat}{T:TypeId}{vs:List Value}(h:an w g T vs)(ho:aZ S w w')(hg:¬S g) :an w' g T vs:= (ho.block g h.lt hg).trans h
theorem eH.only {S:Nat->Prop}{k:IntKind}{w w':World}{a:Option Addr}{zs:List Int}(h:eH k w a zs)(ho:aZ S w w')(e:∀x,a=some x->¬S x.block) :eH k w' a zs:=h.block ho.size fun x hx hl=>ho.block _ hl (e x hx)
def Grow (S:Nat->Prop)(w w':World) :Nat->Prop:=fun k=>S k\/ (w.heap.size<=k/\k<w'.heap.size)
def lD (w:World)(lo hi q:Nat)(Z:List Int)(E:Int)(o:Nat)(err:Int) :Prop:=
 ∃s h1 cs r,an w q 125 [.int .i64 o,.int .i64 err,.pointer (some ⟨s,0,none⟩)]/\Src w lo h1 s Z E cs o r/\lo<=h1/\h1<=q/\q<hi/\hi<=w.heap.size/\o<=Z.length
theorem lD.out {w w':World}{lo hi q lo' hi':Nat}{Z:List Int}{E:Int}{o:Nat}{err:Int}(h:lD w lo hi q Z E o err)(ho:Out lo' hi' w w')(hd:hi<=lo'\/hi'<=lo) :lD w' lo hi q Z E o err:=by
 obtain⟨s,h1,cs,r,k1,k2,k3,k4,k5,k6,k7⟩:=h;exact⟨s,h1,cs,r,k1.out ho (by omega),k2.out ho (by omega),k3,k4,k5,Nat.le_trans k6 ho.size,k7⟩
theorem lD.size {w:World}{lo hi q:Nat}{Z:List Int}{E:Int}{o:Nat}{err:Int}(h:lD w lo hi q Z E o err) :hi<=w.heap.size/\lo<=q/\q<hi/\o<=Z.length:=by
 obtain⟨_,_,_,_,_,_,k3,k4,k5,k6,k7⟩:=h;exact⟨k6,by omega,k5,k7⟩
theorem lD.below {w w':World}{lo hi q:Nat}{Z:List Int}{E:Int}{o:Nat}{err:Int}(h:lD w lo hi q Z E o err)(hb:Below w.heap.size w w') :lD w' lo hi q Z E o err:=
 h.out (lo':=hi) (hi':=hi) (.aW hb aj) (.inl aj)
theorem je {q:Nat}{T:TypeId}{o n:Nat}{err:Int}{p:Value}(e:Int)(w:World)(h:an w q T [.int .i64 o,.int .i64 err,p])(ho:o+n<=200000000000000) :
 Calls Tryz.prog 103 #[.pointer (some ⟨q,0,none⟩),.int .i64 n,.int .i64 e] w fun x w'=>x= .returned (.int .i64 e)/\
  an w' q T [.int .i64 ((o+n:Nat) :Int),.int .i64 e,p]/\Out q (q+1) w w'/\w'.heap.size=w.heap.size:=by
 have H:=aa h;have c0:=h.get 0 rfl;have f0:=h.frozen 0;have c1:=h.get 1 rfl;have f1:=h.frozen 1;have ho': (o:Int) +n<=200000000000000:=by omega
 go_enter Tryz.func103,Tryz.ntmps103;go_wp2_with fail;go_ret;have ev: (o:Int) +n= ((o+n:Nat) :Int) :=by omega
 rw[ev];exact⟨rfl,(H.out.set 0 _).set 1 _,((Out.refl q (q+1) w).setCell (p:=⟨q,0,none⟩) aj (Nat.lt_succ_self _) _).setCell (p:=⟨q,1,none⟩) aj (Nat.lt_succ_self _) _,by simp[World.setCell]⟩
theorem Bl {lo hi s:Nat}{Z:List Int}{E:Int}{cs:List Int}(w:World)(h:Src w lo hi s Z E cs 0 0) :
 Calls Tryz.prog 31 #[.pointer (some ⟨s,0,none⟩)] w fun e w'=>∃q,e= .returned (.pointer (some ⟨q,0,none⟩))/\lD w' lo w'.heap.size q Z E 0 0/\Below w.heap.size w w':=by
 have H:=aa h;clear h;go_enter Tryz.func31,Tryz.ntmps31;go_wp2_with (first| (refine af rfl 125 _ rfl [.int .i64 0,.int .i64 0,.pointer (some ⟨s,0,none⟩)] rfl ?_;intro w1 h1 b1;have H1:=aa h1;have B1:=aa b1;clear h1 b1));go_ret;have hz:=H.out.size;have l1:=H1.out.lt;exact⟨w.heap.size,rfl,⟨s,hi,cs,0,H1.out,H.out.below B1.out,by omega,hz.1,l1,aj,Nat.zero_le _⟩,B1.out⟩
theorem lL {lo hi q:Nat}{Z:List Int}{E:Int}{o:Nat}{err:Int}(w:World)(h:lD w lo hi q Z E o err) :
 Calls Tryz.prog 60 #[.pointer (some ⟨q,0,none⟩)] w fun e w'=>e= .returned (.int .i64 o)/\w=w':=by
 obtain⟨_,_,_,_,k1,_⟩:=h;have c0:=k1.get 0 rfl;go_enter Tryz.func60,Tryz.ntmps60;go_wp2;go_ret;exact⟨rfl,rfl⟩
theorem gH {lo hi q:Nat}{Z:List Int}{E:Int}{o:Nat}{err:Int}(w:World)(h:lD w lo hi q Z E o err)(hE:E=11\/E=4) :
 Calls Tryz.prog 59 #[.pointer (some ⟨q,0,none⟩)] w fun e w'=>∃b c,e= .returned (.tuple #[.slice b (AV Z o err).length c,.int .i64 (jF Z E o err)])/\
  ((AV Z o err).length<=c/\c<=maxLen)/\eH .u8 w' b (AV Z o err)/\ (∀x,b=some x->w.heap.size<=x.block)/\lD w' lo hi q Z E (rp Z o err) (jF Z E o err)/\Out lo hi w w':=by
 have H:=aa h;obtain⟨s,h1,cs,r,k1,k2,k3,k4,k5,k6,k9⟩:=h;have c0:=k1.get 0 rfl;have c1:=k1.get 1 rfl;have c2:=k1.get 2 rfl;by_cases he:err=0
 ·subst he;have K1:=aa k1;have K2:=aa k2;have K3:=aa (show lo<=h1/\h1<=q/\q<hi/\hi<=w.heap.size from⟨k3,k4,k5,k6⟩);obtain⟨L,hL⟩:=named Z.length
  have hL8:Hid (L<=140737488355328) :=by
   show _<=_;obtain⟨_,_,_,_,_,_,_,_,_,_,q6,_⟩:=k2;rw[hL.out];exact q6
  have KO:Hid (o<=L) :=by show _<=_;rw[hL.out];exact k9
  have E4:Hid (E=11\/E=4) :=hE;obtain⟨i0,HI⟩:=dx (P:=Tryz.prog) (e:=5) (by kernel_rfl);clear k1 k2 k3 k4 k5 k6 k9 hE;go_enter Tryz.func59,Tryz.ntmps59;go_wp2_with (refine wpList_make_own _ rfl _ _ 25 rfl w.heap.size 5 i0 (.int .u8 0) 1 Tryz.underlying25 HI.out.1 HI.out.2.1 HI.out.2.2.1 .i64 .i64 512 512 rfl rfl rfl (by rw[HI.out.2.2.2];decide) (by decide) aj ?_;intro w1 h1' h2';have OW1:=aa h1';have B1:=aa ((Below.refl w.heap.size w).grown h2' aj (fun _ h=>by cases h));clear h1' h2');have K2':=aa (K2.out.below B1.out);have K1':=aa (K1.out.below B1.out K1.out.lt);go_loopw [4,5,6] (fun v _ _ wr=>∃j r':Nat,j<=512/\o+j<=L/\wr.ownsRow w.heap.size 5 1 v j (((Z.drop o).take j).map (.int .u8))/\an wr q 125 [.int .i64 ((o+j:Nat) :Int),.int .i64 0,.pointer (some ⟨s,0,none⟩)]/\Src wr lo h1 s Z E cs (o+j) r'/\Out lo hi w wr) (fun v _ _ _=>match v with| .slice _ l _=>512- l|_=>0)
  case atStart=>exact⟨0,r,Nat.zero_le _,KO.out,OW1.out,K1'.out,K2'.out,.aW B1.out aj⟩
  case round=>
   obtain⟨j,r',hj,hoj,hown,hob,href,hout⟩:=hrel;have OB:=aa hob;have RF:=aa href;have OU:=aa hout;have OW:=aa hown;have HOJ:=aa hoj;have JL:Hid (((Z.drop o).take j).length=j) :=by show _=_;rw[List.length_take,List.length_drop,<- hL.out];omega
   obtain⟨va,vc,rfl,_⟩:=bj hown;have c2:=hob.get 2 rfl;clear hob href hout hown hoj;by_cases hlt:j<512
   ·have hlt': (j:Int) <512:=by omega
    by_cases hs:o+j=L
    ·have hL512:¬o+512<=Z.length:=by rw[<- hL.out];omega
     obtain⟨g1,g2,g3⟩:=pQ (E:=E) hL512;have G1:=aa g1;have G2:=aa g2;have G3:=aa g3;clear g1 g2 g3 hL512;go_wp2_with fail;refine(vK (512- (j:Int)) wr RF.out (by omega) (by rw[<- hL.out];exact hs)).mono ?_;rintro e w2 ⟨pa,pc,rfl,_,f3,u3⟩;have RF2:=aa f3;have U2:=aa (u3.wide (lo':=lo) (hi':=h1) aj aj);have OB2:=aa (OB.out.out u3 (.inr (by have:=K3.out;omega)));clear f3 u3 c2;have hh:o+j=Z.length:=by rw[<- hL.out];exact hs
     have fin:∀(w5:World) (E':Int),an w5 q 125 [.int .i64 ((o+j+0:Nat) :Int),.int .i64 E',.pointer (some ⟨s,0,none⟩)]->Out q (q+1) w2 w5->lD w5 lo hi q Z E Z.length E'/\Out lo hi w w5:=by
      intro w5 E' ob h5;have k3:=K3.out;have rf:=RF2.out.out h5 (.inl (by omega));rw[Nat.add_zero,hh]at ob;rw[hh]at rf;refine⟨⟨s,h1,cs,r',ob,rf,by omega,by omega,by omega,?_,aj⟩,?_⟩
      ·have:=OU.out.size;have:=U2.out.size;have h6:w2.heap.size<=w5.heap.size:=h5.size;omega
      ·exact(OU.out.trans (U2.out.wide (by omega) (by omega))).trans (h5.wide (by omega) (by omega))
     have FIN:=aa fin;clear fin;have AL:Hid (o+j+0<=200000000000000) :=by show _<=_;have:=hL8.out;omega
     rcases E4.out with e11|e4
     ·have en: (E==4) =false:=by rw[e11];rfl
      have e5:Hid ((if E=4/\o<Z.length then(5:Int)else E) =E) :=by show _=_;rw[if_neg (by omega)]
      have en0: (E !=0) =true:=by rw[e11];rfl
      clear e11;go_wp2_with fail;refine(je (n:=0) E w2 OB2.out AL.out).mono ?_;rintro e w3 ⟨rfl,ob3,u3,_⟩;have OB3:=aa ob3;have U3:=aa u3;clear ob3 u3;go_wp2_with fail;go_ret2;rw[G1.out,G2.out,G3.out,e5.out];exact⟨none,0,rfl,⟨Nat.zero_le _,Nat.zero_le _⟩,.inl rfl,(fun x hx=>by cases hx),FIN.out _ _ OB3.out U3.out⟩
     ·have en: (E==4) =true:=by rw[e4];rfl
      have en0: (E !=0) =true:=by rw[e4];rfl
      by_cases hj0:j=0
      ·subst hj0;have e5:Hid ((if E=4/\o<Z.length then(5:Int)else E) =E) :=by show _=_;rw[if_neg (by omega)]
       clear e4;go_wp2_with fail;refine(je (n:=0) E w2 OB2.out AL.out).mono ?_;rintro e w3 ⟨rfl,ob3,u3,_⟩;have OB3:=aa ob3;have U3:=aa u3;clear ob3 u3;go_wp2_with fail;go_ret2;rw[G1.out,G2.out,G3.out,e5.out];exact⟨none,0,rfl,⟨Nat.zero_le _,Nat.zero_le _⟩,.inl rfl,(fun x hx=>by cases hx),FIN.out _ _ OB3.out U3.out⟩
      ·have hj0': (0:Int) <j:=by omega
       have e5:Hid ((if E=4/\o<Z.length then(5:Int)else E) =5) :=by show _=_;rw[if_pos (by omega)]
       clear e4;go_wp2_with fail;refine(je (n:=0) 5 w2 OB2.out AL.out).mono ?_;rintro e w3 ⟨rfl,ob3,u3,_⟩;have OB3:=aa ob3;have U3:=aa u3;clear ob3 u3;go_wp2_with fail;go_ret2;rw[G1.out,G2.out,G3.out,e5.out];exact⟨none,0,rfl,⟨Nat.zero_le _,Nat.zero_le _⟩,.inl rfl,(fun x hx=>by cases hx),FIN.out _ _ OB3.out U3.out⟩
    ·have hgo:o+j<L:=by have:=HOJ.out;omega
     have hj5:Hid (o+j<Z.length) :=by show _<_;rw[<- hL.out];exact hgo
     obtain⟨k,hk⟩:=named (gN Z.length cs (o+j) r' (512- (j:Int)));have hb:=rG (cs:=cs) (r:=r') (n:=512- (j:Int)) (by omega) hj5.out;rw[<- hk.out,<- hL.out]at hb;obtain⟨kb1,kb2,kb3⟩:=hb;have HKB:=aa (show 1<=k/\o+j+k<=L/\j+k<=512 by omega);clear kb1 kb2 kb3;go_wp2_with fail;refine(Bm (512- (j:Int)) wr RF.out (by omega) hj5.out k hk.out.symm).mono ?_;rintro e w2 ⟨g2,cc2,rfl,o2,f3,u3⟩;have RF3:Hid (Src w2 lo h1 s Z E cs (o+ (j+k)) (r'+1)) := (congrArg (fun p=>Src w2 lo h1 s Z E cs p (r'+1)) (Nat.add_assoc o j k)).mp f3;have U2:=aa u3;have LG:=aa (ig o2);have I2:Hid (eH .u8 w2 (some ⟨g2,0,none⟩) ((Z.drop (o+j)).take k)) :=eH.bG o2;have OB2:=aa (OB.out.out u3 (.inr (by have:=K3.out;omega)));have OW2:=aa (ux OW.out u3 (by have:=K3.out;omega));have KL:Hid (((Z.drop (o+j)).take k).length=k) :=by show _=_;rw[List.length_take,List.length_drop,<- hL.out];have:=HKB.out;omega
     have AL:Hid (o+j+k<=200000000000000) :=by show _<=_;have:=hL8.out;have:=HKB.out;omega
     clear o2 f3 u3 c2;have hk5:j+k<=512:=HKB.out.2.2;go_wp2_with fail;refine(je (n:=k) 0 w2 OB2.out AL.out).mono ?_;rintro e w4 ⟨rfl,ob4,u4,z4⟩;have OB4:Hid (an w4 q 125 [.int .i64 ((o+ (j+k) :Nat) :Int),.int .i64 0,.pointer (some ⟨s,0,none⟩)]) := (congrArg (fun p:Nat=>an w4 q 125 [.int .i64 (p:Int),.int .i64 0,.pointer (some ⟨s,0,none⟩)]) (Nat.add_assoc o j k)).mp ob4;have U4:=aa u4;have RF4:=aa (RF3.out.out u4 (.inl (by have:=K3.out;omega)));have OW4:=aa (ux OW2.out u4 (by have:=K3.out;omega));have I4:=aa (I2.out.out u4 (fun x hx=>by cases hx;have:=K3.out;have:=LG.out;have:=OU.out.size;show g2<q\/q+1<=g2;omega));have HZ4:Hid (w.heap.size<=w4.heap.size) :=Nat.le_trans OU.out.size (Nat.le_trans U2.out.size u4.size);clear ob4 u4;go_wp2_with (first| (at_builtin;refine cS rfl _ _ 25 rfl w.heap.size 5 .u8 1 Tryz.underlying25 Ct _ j ((Z.drop o).take j) rfl OW4.out (some ⟨g2,0,none⟩) k cc2 ((Z.drop (o+j)).take k) rfl I4.out KL.out (by unfold maxLen;omega) (by omega) HZ4.out ?_;intro v3 w3 h3 b3;have ez: (Z.drop o).take j++ (Z.drop (o+j)).take k= (Z.drop o).take (j+k) := (by rw[List.take_add,List.drop_drop]);rw[ez]at h3;have O3:=aa h3;have B3:=aa b3;have OB3:=aa (OB4.out.below b3 (by have:=K3.out;omega));clear h3 b3 ez));go_roundw
     case rel=>
      have k3:=K3.out;have kb:=HKB.out;have ou2:=OU.out.trans (U2.out.wide (lo':=lo) (hi':=hi) (by omega) (by omega));have ou4:=ou2.trans (U4.out.wide (lo':=lo) (hi':=hi) (by omega) (by omega));have ou3:Out lo hi w w3:=⟨B3.out.os.trans ou4.os,B3.out.tape.trans ou4.tape,B3.out.output.trans ou4.output,Nat.le_trans ou4.size B3.out.size,fun x hx hj=> (B3.out.block x hx).trans (ou4.block x hx hj)⟩;have rf:=RF4.out.out (pR (h:=0) B3.out) (.inl (by omega));exact⟨j+k,r'+1,kb.2.2,Nat.le_trans (Nat.le_of_eq (Nat.add_assoc o j k).symm) kb.2.1,O3.out,OB3.out,rf,ou3⟩
     case measure=>
      obtain⟨b',c',rfl,_⟩:=bj O3.out;have:=HKB.out;simp;omega
   ·obtain rfl:j=512:=by omega
    have hL512:o+512<=Z.length:=by rw[<- hL.out];exact HOJ.out
    obtain⟨g1,g2,g3⟩:=uu (E:=E) hL512;have G1:=aa g1;have G2:=aa g2;have G3:=aa g3;clear g1 g2 g3;go_wp2_with fail;go_ret2;rw[G1.out,G2.out,G3.out];obtain⟨b',c',hv,i1,hcap,hmx,_,x1⟩:=bj OW.out;simp only[Value.slice.injEq,true_and]at hv;obtain⟨rfl,rfl⟩:=hv;refine⟨va,vc,by rw[JL.out];rfl,⟨by rw[JL.out];exact hcap,hmx⟩,i1,fun x hx=> (x1 x hx).1,⟨s,h1,cs,r',OB.out,RF.out,K3.out.1,K3.out.2.1,K3.out.2.2.1,Nat.le_trans K3.out.2.2.2 OU.out.size,hL512⟩,OU.out⟩
 ·obtain⟨g1,g2,g3⟩:=Dl (Z:=Z) (E:=E) (o:=o) he;rw[g1,g2,g3];have hne: (err !=0) =true:=by simp[he]
  clear g1 g2 g3 k1 k2 k3 k4 k5 k6 k9;go_enter Tryz.func59,Tryz.ntmps59;go_wp2;go_quiet (fail);go_wp2;go_ret2;exact⟨none,0,rfl,⟨Nat.zero_le _,Nat.zero_le _⟩,.inl rfl,(fun x hx=>by cases hx),H.out.below (aS _ _ _),.aW (aS _ _ _) aj⟩
theorem lD.bd {w:World}{lo hi q:Nat}{Z:List Int}{E:Int}{o:Nat}{err:Int}(h:lD w lo hi q Z E o err) :Z.length<=140737488355328/\Bytes Z:=by
 obtain⟨s,h1,cs,r,k1,k2,k3⟩:=h;refine⟨?_,k2.bytes.1⟩;obtain⟨_,_,_,_,_,_,_,_,_,_,q6,_⟩:=k2;exact q6
structure Of (S:World->Prop) where
 w:World
 h:S w
theorem aq {P:Program}{id:Nat}{Q:Exit->Act->World->Prop}{a:Act}{w:World}{l:List Oper}{S:World->Prop}(hm:P.follows .mixedOrders=true)(hB:Region.lexB .any l.toArray=true)(hS:S w.drew)
 (h:Nonempty (Of S)->wpQuiet P l.toArray (fun w'=>∃q:Of S,w'=q.w) (fun a'=>∀w',(∃q:Of S,w'=q.w)->Q .normal a' w') l a) : (Code.region id l.toArray true).wp P Q a w:=
 wp_region_quiet (C:=fun w'=>∃q:Of S,w'=q.w) hm hB ⟨⟨w.drew,hS⟩,rfl⟩ (by simpa using h ⟨⟨w.drew,hS⟩⟩)
theorem Calls.dX {P:Program}{f:FuncId}{args:Array Value}{S:World->Prop}{q:Of S}{v:Value}
 (h:Calls P f args q.w fun e w'=>e= .returned v/\Below q.w.heap.size q.w w')(hS:∀w',Below q.w.heap.size q.w w'->S q.w->S w') :
 Calls P f args q.w fun e w''=>e= .returned v/\∃q':Of S,w''=q'.w:=
 h.mono fun _ w' h=>⟨h.1,⟨w',hS w' h.2 q.h⟩,rfl⟩
theorem Calls.iw {P:Program}{f:FuncId}{args:Array Value}{S:World->Prop}{q:Of S}{v:Value}
 (h:∀w,S w->Calls P f args w fun e w'=>e= .returned v/\Below w.heap.size w w')(hS:∀w',Below q.w.heap.size q.w w'->S q.w->S w') :
 Calls P f args q.w fun e w''=>e= .returned v/\∃q':Of S,w''=q'.w:=Calls.dX (h q.w q.h) hS
end
namespace fQ
open Go.RowKit Go.Proofs.YtcjagakckffkiaaGreatDoor.Fit Pxr Pnm
theorem xE {lo hi q:Nat}{Z:List Int}{E:Int}{o:Nat}{err:Int}(w:World)(h:lD w lo hi q Z E o err)(p:Nat)(hp:o=p+512) :
 Calls Tryz.prog 61 #[.pointer (some ⟨q,0,none⟩)] w fun e w'=>e= .returned (.int .i64 p)/\w=w':=by
 have ho8: (o:Int)<=140737488355328:=by have:=h.bd.1;have:=h.size.2.2.2;omega
 have ho5: (512:Int)<=o:=by omega
 go_enter Tryz.func61,Tryz.ntmps61;go_wp2_with fail;refine(lL w h).mono ?_;rintro e w1 ⟨rfl,rfl⟩;go_wp2_with fail;go_ret;exact⟨rfl,rfl⟩
end fQ
namespace fQ
open Go.RowKit Go.Proofs.YtcjagakckffkiaaGreatDoor.Fit Pxr
structure MV (B:Nat) (w:World) :Prop where
 v:ot w
 s:B<=w.heap.size
 g:3<B/\2<B/\0<B/\4<B/\5<B
structure FV (B:Nat) (w:World) :Prop where
 v:dS w
 s:B<=w.heap.size
 g:3<B/\2<B/\0<B
theorem tu {w:World}{g:Nat}{n:String}{cs:Array Value}(hg:Tryz.prog.globalNamed n=some g)(h:w.var? Tryz.prog n=some cs) :g<w.heap.size:=by
 unfold World.var? at h;rw[hg]at h;rcases Nat.lt_or_ge g w.heap.size with h'|h'
 ·exact h'
 ·simp[Array.getElem?_eq_none h']at h
theorem iC {w w':World}{B g:Nat}{n:String}{cs:Array Value}(hg:Tryz.prog.globalNamed n=some g)(h:w.var? Tryz.prog n=some cs)(hb:Below B w w')(hB:g<B) :w'.var? Tryz.prog n=some cs:=by
 unfold World.var? at h⊢;rw[hg]at h⊢;rw[<- h];simp only[Option.bind_some];rw[hb.block g hB]
theorem MV.of {w:World}(h:ot w) :MV w.heap.size w:=by
 obtain⟨f,⟨a,b,c⟩,⟨d,e,g⟩⟩:=h;exact⟨⟨f,⟨a,b,c⟩,⟨d,e,g⟩⟩,aj,zj f.v.BJ,tH f.v.k0,tu xy f.FF,tu Ar c,tu Aq g⟩
theorem FV.below {B:Nat}{w w':World}(h:FV B w)(hb:Below B w w') :FV B w':=by
 obtain⟨⟨v,t⟩,s,g1,g2,g3⟩:=h;refine⟨⟨⟨?_,(hb.cell (p:=⟨2,0,none⟩) g2).trans v.k0,(hb.cell (p:=⟨2,1,none⟩) g2).trans v.k1,(hb.cell (p:=⟨2,2,none⟩) g2).trans v.k2⟩,iC xy t hb g3⟩,Nat.le_trans s hb.size,g1,g2,g3⟩;exact iC (by kernel_rfl:Tryz.prog.globalNamed "internal/strconv.uint64pow10"=some 3) v.BJ hb g1
theorem MV.f {B:Nat}{w:World}(h:MV B w) :FV B w:=⟨h.v.f,h.s,h.g.1,h.g.2.1,h.g.2.2.1⟩
theorem MV.below {B:Nat}{w w':World}(h:MV B w)(hb:Below B w w') :MV B w':=by
 have f:=h.f.below hb;obtain⟨⟨_,⟨a,b,c⟩,⟨d,e,g⟩⟩,s,g1,g2,g3,g4,g5⟩:=h;exact⟨⟨f.v,⟨a,b,iC Ar c hb g4⟩,⟨d,e,iC Aq g hb g5⟩⟩,f.s,g1,g2,g3,g4,g5⟩
theorem FV.go {B:Nat}{w w':World}(h:FV B w)(hb:Below w.heap.size w w') :FV B w':=h.below (hb.mono h.s)
theorem MV.go {B:Nat}{w w':World}(h:MV B w)(hb:Below w.heap.size w w') :MV B w':=h.below (hb.mono h.s)
theorem mL {W:World}{a b c d:String×DataW Unit}(h:laidMetH Tryz.prog [a,b,("internal/strconv.uint64pow10",Rows.laid_internal_strconv_uint64pow10),c,("strconv.ErrRange",Rows.laid_strconv_ErrRange),("strconv.ErrSyntax",Rows.laid_strconv_ErrSyntax),("paxtar/paxrec.keys",Rows.laid_paxtar_paxrec_keys),("paxtar/fit.types",Rows.laid_paxtar_fit_types),d] W)
 (hp: ([a,b,("internal/strconv.uint64pow10",Rows.laid_internal_strconv_uint64pow10),c,("strconv.ErrRange",Rows.laid_strconv_ErrRange),("strconv.ErrSyntax",Rows.laid_strconv_ErrSyntax),("paxtar/paxrec.keys",Rows.laid_paxtar_paxrec_keys),("paxtar/fit.types",Rows.laid_paxtar_fit_types),d].all fun x=>x.2.handleName?.isNone) =true) :ot W:=by
 rw[MakeChecks.laidMetH_plain _ _ _ hp]at h;have h1:=h.tail.tail;have h2:=h1.tail.tail;have h3:=h2.tail;have h4:=h3.tail;obtain⟨k0,k1,k2⟩:=jx h4;obtain⟨a0,s0,hr,-,-,-⟩:=laid_sentinel h2 Aq (by kernel_rfl: (Tryz.prog.globals[5]?).map (·.type) =some 279) Tryz.underlying279 Br Tryz.underlying333 Tryz.underlying335 rfl rfl Tryz.underlying9 (by kernel_rfl) (by kernel_rfl);obtain⟨a1,s1,hs,-,-,-⟩:=laid_sentinel h3 Ar (by kernel_rfl: (Tryz.prog.globals[4]?).map (·.type) =some 279) Tryz.underlying279 Br Tryz.underlying333 Tryz.underlying335 rfl rfl Tryz.underlying9 (by kernel_rfl) (by kernel_rfl);exact⟨⟨⟨lh h1,k0,k1,k2⟩,ln h4.tail⟩,⟨_,_,hs⟩,⟨_,_,hr⟩⟩
end fQ
section
open Go.RowKit
def Ref (w:World)(lo hi m:Nat)(zs:List Int)(F:Int)(cs:List Int)(o r:Nat) :Prop:=
 ∃da dc sa sc,an w m 108 [.slice da zs.length dc,.slice sa cs.length sc,.int .i64 F,.int .i64 o,.int .i64 r]/\BytesIn w da zs/\zs.length<=dc/\eH .i64 w sa cs/\cs.length<=1000/\zs.length<=100000000/\
  (lo<=m/\m<hi/\hi<=w.heap.size)/\ (∀x,da=some x->lo<=x.block/\x.block<hi/\x.block≠m)/\ (∀x,sa=some x->lo<=x.block/\x.block<hi/\x.block≠m)/\r<=o
theorem Ref.size {w:World}{lo hi m:Nat}{zs cs:List Int}{F:Int}{o r:Nat}(h:Ref w lo hi m zs F cs o r) :hi<=w.heap.size/\lo<=m/\m<hi:=by
 obtain⟨_,_,_,_,_,_,_,_,_,_,h7,_⟩:=h;exact⟨h7.2.2,h7.1,h7.2.1⟩
theorem Ref.step {w w3:World}{lo hi m:Nat}{zs cs:List Int}{F:Int}{o r:Nat}(h:Ref w lo hi m zs F cs o r)(hb:Below w.heap.size w w3)(e k:Nat)(he:e=o+k)(hk:1<=k) :
 Ref ((w3.setCell ⟨m,3,none⟩ (.int .i64 e)).setCell ⟨m,4,none⟩ (.int .i64 (r+1))) lo hi m zs F cs (o+k) (r+1)/\Out lo hi w ((w3.setCell ⟨m,3,none⟩ (.int .i64 e)).setCell ⟨m,4,none⟩ (.int .i64 (r+1)))/\
 ∀b ys,eH .u8 w3 b ys-> (∀x,b=some x->w.heap.size<=x.block)->eH .u8 ((w3.setCell ⟨m,3,none⟩ (.int .i64 e)).setCell ⟨m,4,none⟩ (.int .i64 (r+1))) b ys:=by
 obtain⟨da,dc,sa,sc,h1,h2,h3,h4,h5,h6,h7,h8,h9,h10⟩:=h;subst he;have hlt:=h1.lt;have hs:=hb.size;refine⟨⟨da,dc,sa,sc,((h1.below hb hlt).set 3 _).set 4 _,((h2.below hb).set _ (fun x hx=> (h8 x hx).2.2)).set _ (fun x hx=> (h8 x hx).2.2),h3,((h4.below hb).set _ (fun x hx=> (h9 x hx).2.2)).set _ (fun x hx=> (h9 x hx).2.2),h5,h6,?_,h8,h9,by omega⟩,?_,?_⟩
 ·simp[World.setCell];omega
 ·exact((Out.aW hb aj).setCell (by show lo<=m;omega) (by show m<hi;omega) _).setCell (by show lo<=m;omega) (by show m<hi;omega) _
 ·intro b ys hk hx;exact(hk.set _ (fun x e=>by have:=hx x e;omega)).set _ (fun x e=>by have:=hx x e;omega)
def DQ (w:World)(lo hi q:Nat)(Z:List Int)(E:Int)(o:Nat)(err:Int) :Prop:=
 ∃m h1 zs F cs r,an w q 95 [.pointer (some ⟨m,0,none⟩),.int .i64 o,.int .i64 err]/\Ref w lo h1 m zs F cs o r/\lo<=h1/\h1<=q/\q<hi/\hi<=w.heap.size/\
  Z=zs.take (qJ F zs.length)/\E=mg F zs.length/\o<=Z.length
theorem DQ.size {w:World}{lo hi q:Nat}{Z:List Int}{E:Int}{o:Nat}{err:Int}(h:DQ w lo hi q Z E o err) :hi<=w.heap.size/\lo<=q/\q<hi/\o<=Z.length:=by
 obtain⟨_,_,_,_,_,_,_,_,k3,k4,k5,k6,_,_,k7⟩:=h;exact⟨k6,by omega,k5,k7⟩
theorem DQ.en {w:World}{lo hi q:Nat}{Z:List Int}{E:Int}{o:Nat}{err:Int}(h:DQ w lo hi q Z E o err) : (E=11\/E=4)/\Z.length<=100000000:=by
 obtain⟨m,h1,zs,F,cs,r,k1,k2,k3,k4,k5,k6,k7,k8,k9⟩:=h;refine⟨by rw[k8];exact Ae _ _,?_⟩;obtain⟨_,_,_,_,_,_,_,_,_,q6,_⟩:=k2;rw[k7,List.length_take];omega
end
namespace Pxr
open Go.RowKit
theorem yW (k:Nat)(h:k<10)(t:ByteArray) :ad (strOfNums [48+ (k:Int)] ++t) =cy k++ad t:=by
 rw[dZ,ak (fun z hz=>by simp at hz;omega),ep h]
theorem jL (n:Nat)(hn:n<=1000000000000000000)(w:World) :Calls Tryz.prog 117 #[.int .i64 (n:Int)] w fun e w'=>e= .returned (.string (strOfNums (cy n)))/\Below w.heap.size w w':=by
 obtain⟨R,hR⟩:=named (strOfNums (cy n));rw[<- hR.out]
 have HL:Hid ((cy n).length<=19) :=by
  show _<=_;rw[jo];exact dq 18 n (Nat.lt_of_le_of_lt hn (by decide))
 have HI:Hid ((Tryz.prog.info? 5).map (fun i=> (i.zero,i.size,i.bytes)) =some (some (.int .u8 0),1,1)) :=by show _=_;kernel_rfl
 obtain⟨z0,hz0⟩:=named (n:Int);rw[<- hz0.out];have HNN:=aa hn;clear hn;go_enter Tryz.func117,Tryz.ntmps117;go_wp2;go_loopw [0,3] (fun m s wr=>∃(z:Int) (k:Nat) (t:ByteArray),m= .int .i64 z/\s= .string t/\Hid (z=k/\k<=n/\cy k++ad t=cy n)/\Below w.heap.size w wr) (fun m _ _=> (intOf m).toNat)
 case atStart=>exact⟨z0,n,{data:= #[]},rfl,rfl,⟨hz0.out,aj,by rw[show ad {data:= #[]} = []from rfl,List.append_nil]⟩,au⟩
 case round=>
  obtain⟨z,k,t,rfl,rfl,hk,hb⟩:=hrel;have HB:=aa hb;have k0:0<=z:=by have:=hk.out.1;omega
  have k1:z<=1000000000000000000:=by have:=hk.out.1;have:=hk.out.2.1;have:=HNN.out;omega
  have ts: (t.size:Int)<=19:=by
   have:=congrArg List.length hk.out.2.2;rw[List.length_append,ah]at this;have:=HL.out;omega
  clear hb;by_cases h:z<10
  ·have hz:z<10:=h;obtain⟨d,hd⟩:=named (strOfNums [48+z]);have ds: (d.size:Int)<=1:=by rw[hd.out,<- ah,ak (fun y hy=>by simp at hy;omega)];exact Int.le_refl 1
   go_wp2_with (first| (refine cK rfl 25 5 _ rfl Tryz.underlying25 HI.out (48+z) rfl (by omega) ?_;intro w1 g1 b1;have G1:=aa g1;have B1:=aa b1;have hcv:=aQ (P:=Tryz.prog) Tryz.underlying25 Tryz.underlying5 Tryz.underlying9 g1.bytes 1 1 rfl;rw[<- hd.out]at hcv;clear g1 b1));go_ret;refine⟨?_,HB.out.trans (B1.out.mono HB.out.size)⟩
   have e:R=d++t:=by
    apply bQ;rw[hd.out,hk.out.1,yW k (by have:=hk.out.1;omega),hk.out.2.2,hR.out]
    exact ak (fun z hz=>by
     have:=fZ n;rw[List.all_eq_true]at this;have:= (dD z).1 (this z hz);omega)
   rw[e];rfl
  ·have h2:10<=z:=by omega
   have m0:0<=z % 10:=by omega
   have m1:z % 10<10:=by omega
   have H3:Hid (∃k':Nat,z/10=k'/\k'<=n/\cy k'++ad (strOfNums [48+z % 10] ++t) =cy n) :=by
    have e:=hk.out;refine⟨k/10,by omega,by omega,?_⟩;rw[dZ,ak (fun y hy=>by simp at hy;omega),<- List.append_assoc,<- e.2.2,gV (n:=k) (by omega)]
    congr 3
    omega
   obtain⟨d,hd⟩:=named (strOfNums [48+z % 10]);have ds: (d.size:Int)<=1:=by rw[hd.out,<- ah,ak (fun y hy=>by simp at hy;omega)];exact Int.le_refl 1
   rw[<- hd.out]at H3;clear h;go_wp2_with (first| (refine cK rfl 25 5 _ rfl Tryz.underlying25 HI.out (48+z % 10) rfl (by omega) ?_;intro w1 g1 b1;have G1:=aa g1;have B1:=aa b1;have hcv:=aQ (P:=Tryz.prog) Tryz.underlying25 Tryz.underlying5 Tryz.underlying9 g1.bytes 1 1 rfl;rw[<- hd.out]at hcv;clear g1 b1));go_roundw
   case rel=>
    obtain⟨k',e1,e2,e3⟩:=H3.out;exact⟨z/10,k',_,rfl,rfl,⟨e1,e2,e3⟩,HB.out.trans (B1.out.mono HB.out.size)⟩
   case measure=>simp[intOf];omega
end Pxr
end Go.Proofs.YtcjagakckffkiaaGreatDoor
