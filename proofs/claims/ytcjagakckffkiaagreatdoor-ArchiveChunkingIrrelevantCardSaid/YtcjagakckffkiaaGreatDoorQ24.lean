import Derived.Test.YtcjagakckffkiaaGreatDoorQ10
import Derived.Test.YtcjagakckffkiaaGreatDoorQ1
import Derived.Test.YtcjagakckffkiaaGreatDoorQ12
import Derived.Test.YtcjagakckffkiaaGreatDoorRows
import Derived.Test.YtcjagakckffkiaaGreatDoorQ3
import Derived.Deep.DeepMust
import Derived.Deep.QuietTactic
import Derived.BigQuiet
import Derived.BigRegion
import Derived.Test.YtcjagakckffkiaaGreatDoorQ13
import Derived.Test.YtcjagakckffkiaaGreatDoorQ8
import Derived.Test.YtcjagakckffkiaaGreatDoorQ16
set_option maxHeartbeats 16000000
namespace Go.Proofs.YtcjagakckffkiaaGreatDoor.Tre
open Go.RowKit Go.MapKept Go.Proofs.YtcjagakckffkiaaGreatDoor.Fit
set_option maxRecDepth 100000 in
theorem vY (a:Option Addr)(n cap:Nat)(ys:List aL)(w:World)(ha:br w a n cap ys) :
 Calls Tryz.prog 87 #[.slice a n cap,.func (.func 88) #[] #[]] w fun e w'=>∃g N,e= .returned (.map (some g))/\dP w' g .string N (fk (pk ys) n)/\w.heap.size<=g/\Below w.heap.size w w':=by
 have HA:=ad ha;have NZ:=ad Bm;have NO:=ad Cm;have ZI:Hid ((Tryz.prog.info? 3).map (·.zero) =some (some (.int .i64 0))) :=by show _=_;kernel_rfl
 have UM:=ad Tryz.underlying151;have UK:=ad Tryz.underlying9;have hn:n<=maxLen:=Nat.le_trans ha.c ha.m;unfold maxLen at hn;clear ha;go_enter Tryz.func87,Tryz.ntmps87;go_wp2_with (first| (refine bH rfl _ rfl .string ?_;intro w1 m1 b1;have M1:=ad m1;have B1:=ad b1;have S1:=ad m1.lt;clear m1 b1));go_loopw [13] (fun i wr=>∃j N:Nat,i= .int .i64 j/\j<=n/\dP wr w.heap.size .string N (fk (pk ys) j)/\Below w.heap.size w wr) (fun i _=>n- (intOf i).toNat)
 case atStart=>exact⟨0,0,rfl,Nat.zero_le _,by rw[vm];exact M1.out,B1.out⟩
 case round=>
  obtain⟨j,N,rfl,hj,hM,hB⟩:=hrel;have HM:=ad hM;have HB:=ad hB;have W0:Hid (w.heap.size<wr.heap.size) :=hM.lt;clear hM hB;by_cases hjn:j<n
  ·obtain⟨b,off,y,rfl,hb,hy,hf,hat⟩:=HA.out.get j hjn;have hat':=hat.below HB.out hb;obtain⟨c0,c1,c2,c3,c4,c5⟩:=hat'.c hy;have e1:pk ys j= .string y.n.p:=by unfold pk;rw[oI hy]
   have E1:Hid (pk ys j= .string y.n.p) :=e1;clear hat hat' e1 hf hy;obtain⟨⟨k,p,m,t,d,c⟩,x,xc⟩:=y;obtain⟨L,hL⟩:=named d.length;have c4':wr.cell? ⟨b,off+j*6+4,none⟩=some (.slice x L xc) :=by rw[hL.out];exact c4
   clear c4 hL;have EJ:Hid (pk ys j= .string p) :=E1.out;clear E1;have j1: (j:Int) <n:=by omega
   have NB:Hid (b<w.heap.size) :=hb;clear hb hjn;go_wp2_with (first| (refine ag rfl 77 rfl (bq 0 emp 0 emp none 0 0 0) NZ.out ?_;intro w2 g2 b2;have G2:=ad g2;have M2:=ad (HM.out.below b2 HM.out.lt);have B2:=ad (HB.out.trans (b2.mono (Nat.le_of_lt W0.out)));have W2:=ad b2.size;clear g2 b2 c0 c1 c2 c3 c4' c5) | (refine ae rfl 77 _ _ rfl wr.heap.size rfl (bq k p m t x L xc c) (bq 0 emp 0 emp none 0 0 0) rfl 77 G2.out NO.out.2 rfl (bE _ _ _ _ _ _ _ _) ?_;intro w3 g3 t3;have G3:=ad g3;have M3:=ad (M2.out.block (t3.other (Nat.ne_of_lt W0.out)));have B3:=ad (B2.out.trans (t3.below (Nat.le_of_lt W0.out)));have W3:=ad (Nat.le_trans W2.out (Nat.le_of_eq t3.size.symm));have c0:=g3.get 0 rfl;have c1:=g3.get 1 rfl;have c2:=g3.get 2 rfl;have c3:=g3.get 3 rfl;have c4:=g3.get 4 rfl;have c5:=g3.get 5 rfl;clear g3 t3));refine(qD k p m t x L xc c w3).mono ?_;rintro e w4 ⟨rfl,b4⟩;have G4:=ad (G3.out.below b4 G3.out.lt);have M4:=ad (M3.out.below b4 M3.out.lt);have B4:=ad (ar B3.out b4);clear b4 c0 c1 c2 c3 c4 c5;obtain⟨q1,q2⟩:=bI (P:=Tryz.prog) (w:=w4) 151 9 3 UM.out .string UK.out (.int .i64 0) ZI.out w.heap.size N (.string p) (show IsKey .string (.string p)from trivial) (fk (pk ys) j) M4.out;clear q2
   cases hF:fk (pk ys) j (.string p)with
   |some z=>
    have FJ:Hid (fk (pk ys) (j+1) =fk (pk ys) j) :=EF (by rw[EJ.out,hF];rfl);rw[hF]at q1;simp only[Option.getD_some,Option.isSome_some]at q1;clear hF;go_wp2_with fail
    go_round
    case rel=>exact⟨j+1,N,by go_num,by omega,by rw[FJ.out];exact M4.out,B4.out⟩
    case measure=>simp[intOf];omega
   |none=>
    have FJ:Hid (fk (pk ys) (j+1) =rW (fk (pk ys) j) (.string p) (.int .i64 j)) :=by show _=_;rw[Dl (by rw[EJ.out,hF]),EJ.out]
    have HF:=ad hF;rw[hF]at q1;simp only[Option.getD_none,Option.isSome_none]at q1;clear hF;have c0:=G4.out.get 0 rfl;have c1:=G4.out.get 1 rfl;have c2:=G4.out.get 2 rfl;have c3:=G4.out.get 3 rfl;have c4:=G4.out.get 4 rfl;have c5:=G4.out.get 5 rfl;go_wp2_with fail;refine(qD k p m t x L xc c w4).mono ?_;rintro e w5 ⟨rfl,b5⟩;have M5:=ad (M4.out.below b5 M4.out.lt);have B5:=ad (ar B4.out b5);clear b5 c0 c1 c2 c3 c4 c5 q1;go_wp2_with (first| (refine cE rfl 151 _ _ _ rfl 9 3 UM.out .string UK.out w.heap.size rfl (.string p) rfl (show IsKey .string (.string p)from trivial) (.int .i64 j) rfl N _ M5.out ?_;intro w6 m6 t6;have M6:=ad m6;have B6:=ad (B5.out.trans (t6.below ah));clear m6 t6))
    go_round
    case rel=>exact⟨j+1,_,by go_num,by omega,by rw[FJ.out];exact M6.out,B6.out⟩
    case measure=>simp[intOf];omega
  ·obtain rfl:j=n:=by omega
   go_wp2;go_ret;exact⟨_,N,rfl,HM.out,ah,HB.out⟩
end Go.Proofs.YtcjagakckffkiaaGreatDoor.Tre
namespace Go.Proofs.YtcjagakckffkiaaGreatDoor.Tre
open Go.RowKit Go.MapKept Go.Proofs.YtcjagakckffkiaaGreatDoor.Fit
set_option maxRecDepth 100000 in
theorem wG (a:Option Addr)(n cap:Nat)(ys:List aL)(w:World)(ha:br w a n cap ys) :
 Calls Tryz.prog 89 #[.slice a n cap,.func (.func 90) #[] #[]] w fun e w'=>∃g N,e= .returned (.map (some g))/\dP w' g (.int .i64) N (fk (ck ys) n)/\w.heap.size<=g/\Below w.heap.size w w':=by
 have HA:=ad ha;have NZ:=ad Bm;have NO:=ad Cm;have ZI:Hid ((Tryz.prog.info? 3).map (·.zero) =some (some (.int .i64 0))) :=by show _=_;kernel_rfl
 have UM:=ad Tryz.underlying171;have UK:=ad Tryz.underlying3;have hn:n<=maxLen:=Nat.le_trans ha.c ha.m;unfold maxLen at hn;clear ha;go_enter Tryz.func89,Tryz.ntmps89;go_wp2_with (first| (refine bH rfl _ rfl (.int .i64) ?_;intro w1 m1 b1;have M1:=ad m1;have B1:=ad b1;have S1:=ad m1.lt;clear m1 b1));go_loopw [13] (fun i wr=>∃j N:Nat,i= .int .i64 j/\j<=n/\dP wr w.heap.size (.int .i64) N (fk (ck ys) j)/\Below w.heap.size w wr) (fun i _=>n- (intOf i).toNat)
 case atStart=>exact⟨0,0,rfl,Nat.zero_le _,by rw[vm];exact M1.out,B1.out⟩
 case round=>
  obtain⟨j,N,rfl,hj,hM,hB⟩:=hrel;have HM:=ad hM;have HB:=ad hB;have W0:Hid (w.heap.size<wr.heap.size) :=hM.lt;clear hM hB;by_cases hjn:j<n
  ·obtain⟨b,off,y,rfl,hb,hy,hf,hat⟩:=HA.out.get j hjn;have hat':=hat.below HB.out hb;obtain⟨c0,c1,c2,c3,c4,c5⟩:=hat'.c hy;have e1:ck ys j= .int .i64 y.n.c:=by unfold ck;rw[oI hy]
   have E1:Hid (ck ys j= .int .i64 y.n.c) :=e1;clear hat hat' e1 hf hy;obtain⟨⟨k,p,m,t,d,c⟩,x,xc⟩:=y;obtain⟨L,hL⟩:=named d.length;have c4':wr.cell? ⟨b,off+j*6+4,none⟩=some (.slice x L xc) :=by rw[hL.out];exact c4
   clear c4 hL;have EJ:Hid (ck ys j= .int .i64 c) :=E1.out;clear E1;have j1: (j:Int) <n:=by omega
   have NB:Hid (b<w.heap.size) :=hb;clear hb hjn;go_wp2_with (first| (refine ag rfl 77 rfl (bq 0 emp 0 emp none 0 0 0) NZ.out ?_;intro w2 g2 b2;have G2:=ad g2;have M2:=ad (HM.out.below b2 HM.out.lt);have B2:=ad (HB.out.trans (b2.mono (Nat.le_of_lt W0.out)));have W2:=ad b2.size;clear g2 b2 c0 c1 c2 c3 c4' c5) | (refine ae rfl 77 _ _ rfl wr.heap.size rfl (bq k p m t x L xc c) (bq 0 emp 0 emp none 0 0 0) rfl 77 G2.out NO.out.2 rfl (bE _ _ _ _ _ _ _ _) ?_;intro w3 g3 t3;have G3:=ad g3;have M3:=ad (M2.out.block (t3.other (Nat.ne_of_lt W0.out)));have B3:=ad (B2.out.trans (t3.below (Nat.le_of_lt W0.out)));have W3:=ad (Nat.le_trans W2.out (Nat.le_of_eq t3.size.symm));have c0:=g3.get 0 rfl;have c1:=g3.get 1 rfl;have c2:=g3.get 2 rfl;have c3:=g3.get 3 rfl;have c4:=g3.get 4 rfl;have c5:=g3.get 5 rfl;clear g3 t3));refine(kF k p m t x L xc c w3).mono ?_;rintro e w4 ⟨rfl,b4⟩;have G4:=ad (G3.out.below b4 G3.out.lt);have M4:=ad (M3.out.below b4 M3.out.lt);have B4:=ad (ar B3.out b4);clear b4 c0 c1 c2 c3 c4 c5;obtain⟨q1,q2⟩:=bI (P:=Tryz.prog) (w:=w4) 171 3 3 UM.out (.int .i64) UK.out (.int .i64 0) ZI.out w.heap.size N (.int .i64 c) (show IsKey (.int .i64) (.int .i64 c)from rfl) (fk (ck ys) j) M4.out;clear q2
   cases hF:fk (ck ys) j (.int .i64 c)with
   |some z=>
    have FJ:Hid (fk (ck ys) (j+1) =fk (ck ys) j) :=EF (by rw[EJ.out,hF];rfl);rw[hF]at q1;simp only[Option.getD_some,Option.isSome_some]at q1;clear hF;go_wp2_with fail
    go_round
    case rel=>exact⟨j+1,N,by go_num,by omega,by rw[FJ.out];exact M4.out,B4.out⟩
    case measure=>simp[intOf];omega
   |none=>
    have FJ:Hid (fk (ck ys) (j+1) =rW (fk (ck ys) j) (.int .i64 c) (.int .i64 j)) :=by show _=_;rw[Dl (by rw[EJ.out,hF]),EJ.out]
    have HF:=ad hF;rw[hF]at q1;simp only[Option.getD_none,Option.isSome_none]at q1;clear hF;have c0:=G4.out.get 0 rfl;have c1:=G4.out.get 1 rfl;have c2:=G4.out.get 2 rfl;have c3:=G4.out.get 3 rfl;have c4:=G4.out.get 4 rfl;have c5:=G4.out.get 5 rfl;go_wp2_with fail;refine(kF k p m t x L xc c w4).mono ?_;rintro e w5 ⟨rfl,b5⟩;have M5:=ad (M4.out.below b5 M4.out.lt);have B5:=ad (ar B4.out b5);clear b5 c0 c1 c2 c3 c4 c5 q1;go_wp2_with (first| (refine cE rfl 171 _ _ _ rfl 3 3 UM.out (.int .i64) UK.out w.heap.size rfl (.int .i64 c) rfl (show IsKey (.int .i64) (.int .i64 c)from rfl) (.int .i64 j) rfl N _ M5.out ?_;intro w6 m6 t6;have M6:=ad m6;have B6:=ad (B5.out.trans (t6.below ah));clear m6 t6))
    go_round
    case rel=>exact⟨j+1,_,by go_num,by omega,by rw[FJ.out];exact M6.out,B6.out⟩
    case measure=>simp[intOf];omega
  ·obtain rfl:j=n:=by omega
   go_wp2;go_ret;exact⟨_,N,rfl,HM.out,ah,HB.out⟩
end Go.Proofs.YtcjagakckffkiaaGreatDoor.Tre
namespace Go.Proofs.YtcjagakckffkiaaGreatDoor.Tre
open Go.RowKit Go.MapKept Go.Proofs.YtcjagakckffkiaaGreatDoor.Fit
set_option maxRecDepth 100000 in
theorem Fs (a:Option Addr)(n cap:Nat)(ys:List aL)(w:World)(ha:br w a n cap ys) :
 Calls Tryz.prog 91 #[.slice a n cap] w fun e w'=>∃g N,e= .returned (.map (some g))/\dP w' g .string N (dk (kk ys) (pk ys) n)/\w.heap.size<=g/\Below w.heap.size w w':=by
 have HA:=ad ha;have NZ:=ad Bm;have NO:=ad Cm;have UM:=ad Tryz.underlying150;have UK:=ad Tryz.underlying9;have hn:n<=maxLen:=Nat.le_trans ha.c ha.m;unfold maxLen at hn;clear ha;go_enter Tryz.func91,Tryz.ntmps91;go_wp2_with (first| (refine bH rfl _ rfl .string ?_;intro w1 m1 b1;have M1:=ad m1;have B1:=ad b1;have S1:=ad m1.lt;clear m1 b1));go_loopw [9] (fun i wr=>∃j N:Nat,i= .int .i64 j/\j<=n/\dP wr w.heap.size .string N (dk (kk ys) (pk ys) j)/\Below w.heap.size w wr) (fun i _=>n- (intOf i).toNat)
 case atStart=>exact⟨0,0,rfl,Nat.zero_le _,by rw[Kw];exact M1.out,B1.out⟩
 case round=>
  obtain⟨j,N,rfl,hj,hM,hB⟩:=hrel;have HM:=ad hM;have HB:=ad hB;have W0:Hid (w.heap.size<wr.heap.size) :=hM.lt;clear hM hB;by_cases hjn:j<n
  ·obtain⟨b,off,y,rfl,hb,hy,hf,hat⟩:=HA.out.get j hjn;have hat':=hat.below HB.out hb;obtain⟨c0,c1,c2,c3,c4,c5⟩:=hat'.c hy;have E1:Hid (pk ys j= .string y.n.p/\kk ys j=y.n.k) :=⟨by unfold pk;rw[oI hy],by unfold kk;rw[oI hy]⟩;clear hat hat' hf hy;obtain⟨⟨k,p,m,t,d,c⟩,x,xc⟩:=y;obtain⟨L,hL⟩:=named d.length;have c4':wr.cell? ⟨b,off+j*6+4,none⟩=some (.slice x L xc) :=by rw[hL.out];exact c4
   clear c4 hL;have EP:Hid (pk ys j= .string p) :=E1.out.1;have EK:Hid (kk ys j=k) :=E1.out.2;clear E1;have j1: (j:Int) <n:=by omega
   have NB:Hid (b<w.heap.size) :=hb;clear hb hjn;by_cases hk:k=0
   ·subst hk;have FJ:Hid (dk (kk ys) (pk ys) (j+1) =rW (dk (kk ys) (pk ys) j) (.string p) (.bool true)) :=by show _=_;rw[Qc EK.out,EP.out]
    go_wp2_with (first| (refine ag rfl 77 rfl (bq 0 emp 0 emp none 0 0 0) NZ.out ?_;intro w2 g2 b2;have G2:=ad g2;have M2:=ad (HM.out.below b2 HM.out.lt);have B2:=ad (HB.out.trans (b2.mono (Nat.le_of_lt W0.out)));clear g2 b2 c0 c1 c2 c3 c4' c5) | (refine ae rfl 77 _ _ rfl wr.heap.size rfl (bq 0 p m t x L xc c) (bq 0 emp 0 emp none 0 0 0) rfl 77 G2.out NO.out.2 rfl (bE _ _ _ _ _ _ _ _) ?_;intro w3 g3 t3;have M3:=ad (M2.out.block (t3.other (Nat.ne_of_lt W0.out)));have B3:=ad (B2.out.trans (t3.below (Nat.le_of_lt W0.out)));have c0:=g3.get 0 rfl;have c1:=g3.get 1 rfl;clear g3 t3) | (refine cE rfl 150 _ _ _ rfl 9 4 UM.out .string UK.out w.heap.size rfl (.string p) rfl (show IsKey .string (.string p)from trivial) (.bool true) rfl N _ M3.out ?_;intro w6 m6 t6;have M6:=ad m6;have B6:=ad (B3.out.trans (t6.below ah));clear m6 t6))
    go_round
    case rel=>exact⟨j+1,_,by go_num,by omega,by rw[FJ.out];exact M6.out,B6.out⟩
    case measure=>simp[intOf];omega
   ·have nk: (k==0) =false:=by simpa using hk
    have FJ:Hid (dk (kk ys) (pk ys) (j+1) =dk (kk ys) (pk ys) j) :=Om (by rw[EK.out];exact hk);clear hk;go_wp2_with (first| (refine ag rfl 77 rfl (bq 0 emp 0 emp none 0 0 0) NZ.out ?_;intro w2 g2 b2;have G2:=ad g2;have M2:=ad (HM.out.below b2 HM.out.lt);have B2:=ad (HB.out.trans (b2.mono (Nat.le_of_lt W0.out)));clear g2 b2 c0 c1 c2 c3 c4' c5) | (refine ae rfl 77 _ _ rfl wr.heap.size rfl (bq k p m t x L xc c) (bq 0 emp 0 emp none 0 0 0) rfl 77 G2.out NO.out.2 rfl (bE _ _ _ _ _ _ _ _) ?_;intro w3 g3 t3;have M3:=ad (M2.out.block (t3.other (Nat.ne_of_lt W0.out)));have B3:=ad (B2.out.trans (t3.below (Nat.le_of_lt W0.out)));have c0:=g3.get 0 rfl;have c1:=g3.get 1 rfl;clear g3 t3))
    go_round
    case rel=>exact⟨j+1,N,by go_num,by omega,by rw[FJ.out];exact M3.out,B3.out⟩
    case measure=>simp[intOf];omega
  ·obtain rfl:j=n:=by omega
   go_wp2;go_ret;exact⟨_,N,rfl,HM.out,ah,HB.out⟩
end Go.Proofs.YtcjagakckffkiaaGreatDoor.Tre
namespace Go.Proofs.YtcjagakckffkiaaGreatDoor.Pnm
open Go.RowKit
set_option maxRecDepth 100000 in
theorem Dp (s t:ByteArray)(w:World)(hs:s.size<=maxLen) :Calls Tryz.prog 51 #[.string s,.string t] w fun e w'=>e= .returned (.int .i64 (aP (af s) (af t)))/\Below w.heap.size w w':=by
 unfold maxLen at hs;obtain⟨C,hC⟩:=named (aP (af s) (af t));rw[<- hC.out];have DS:Hid (∀j (h:j<s.size),(af s).drop j= (s[j].toNat:Int) :: (af s).drop (j+1)) :=wI s;have DT:Hid (∀j (h:j<t.size),(af t).drop j= (t[j].toNat:Int) :: (af t).drop (j+1)) :=wI t;go_enter Tryz.func51,Tryz.ntmps51;go_wp2_with fail;go_loopw [5] (fun i wr=>∃j:Nat,j<=s.size/\j<=t.size/\i= .int .i64 j/\aP ((af s).drop j) ((af t).drop j) =C/\Below w.heap.size w wr) (fun i _=>s.size+1- (intOf i).toNat)
 case atStart=>exact⟨0,Nat.zero_le _,Nat.zero_le _,rfl,hC.out.symm,aF⟩
 case round=>
  obtain⟨j,hj1,hj2,rfl,hc,hb⟩:=hrel;have HC:=ad hc;have HB:=ad hb;clear hc hb;by_cases l1:j<s.size
  ·by_cases l2:j<t.size
   ·have m1: (j:Int) <s.size:=by omega
    have m2: (j:Int) <t.size:=by omega
    have d1:=DS.out j l1;have d2:=DT.out j l2;obtain⟨x,hx⟩:∃x:Int,((s[j].toNat:Nat) :Int) =x:=⟨_,rfl⟩;obtain⟨y,hy⟩:∃y:Int,((t[j].toNat:Nat) :Int) =y:=⟨_,rfl⟩;rw[hx]at d1;rw[hy]at d2;have hc:=HC.out;rw[d1,d2,aP]at hc;have HC2:=ad hc;clear d1 d2 hc;by_cases o1:x<y
    ·have e:Hid (C= -1) :=by show _=_;rw[<- HC2.out,if_pos o1]
     go_wp2_with fail;go_quiet (fail);go_wp2;go_ret;rw[e.out];exact⟨rfl,HB.out.trans (aO _ _ _)⟩
    ·by_cases o2:y<x
     ·have e:Hid (C=1) :=by show _=_;rw[<- HC2.out,if_neg o1,if_pos o2]
      go_wp2_with fail;go_quiet (fail);go_wp2;go_quiet (fail);go_wp2;go_ret;rw[e.out];exact⟨rfl,(HB.out.trans (aO _ _ _)).trans (aO _ _ _)⟩
     ·have e:Hid (aP ((af s).drop (j+1)) ((af t).drop (j+1)) =C) :=by show _=_;rw[<- HC2.out,if_neg o1,if_neg o2]
      go_wp2_with fail;go_quiet (fail);go_wp2;go_quiet (fail);go_wp2;go_roundw
      case rel=>exact⟨j+1,by omega,by omega,by go_num,e.out,HB.out.trans (aO _ _ _)⟩
      case measure=>simp[intOf];omega
   ·obtain rfl:j=t.size:=by omega
    have m1: ((t.size:Nat) :Int) <s.size:=by omega
    have m2:¬((s.size:Nat) :Int) <t.size:=by omega
    have e:Hid (C=1) :=by
     show _=_;rw[<- HC.out,mQ,DS.out _ l1];rfl
    go_wp2;go_ret;rw[e.out];exact⟨rfl,HB.out⟩
  ·obtain rfl:j=s.size:=by omega
   by_cases l2:s.size<t.size
   ·have m1: ((s.size:Nat) :Int) <t.size:=by omega
    have e:Hid (C= -1) :=by
     show _=_;rw[<- HC.out,mQ,DT.out _ l2];rfl
    go_wp2;go_ret;rw[e.out];exact⟨rfl,HB.out⟩
   ·have m1:¬((s.size:Nat) :Int) <t.size:=by omega
    have m2:¬((t.size:Nat) :Int) <s.size:=by omega
    have e:Hid (C=0) :=by
     show _=_;rw[<- HC.out,mQ,show s.size=t.size by omega,mQ];rfl
    go_wp2;go_ret;rw[e.out];exact⟨rfl,HB.out⟩
end Go.Proofs.YtcjagakckffkiaaGreatDoor.Pnm
namespace Go.Proofs.YtcjagakckffkiaaGreatDoor.Pnm
open Go.RowKit
theorem Cx (s:ByteArray)(w:World)(hs:s.size<=maxLen) :Calls Tryz.prog 192 #[.string s,.int .u8 47] w fun e w'=>e= .returned (.int .i64 (fW (af s)))/\w=w':=by
 unfold maxLen at hs;obtain⟨L,hL⟩:=named (fW (af s));have HL:Hid (L=fl (af s) s.size) :=by show _=_;rw[hL.out];unfold fW;rw[an]
 have HA:Hid (∀j (h:j<s.size),(af s).getD j 0= (s[j].toNat:Int)) :=je s;rw[<- hL.out];clear hL;go_enter Tryz.func192,Tryz.ntmps192;go_wp2;go_loop [5] (fun i=>∃v:Int,i= .int .i64 v/\ -1<=v/\v<s.size/\fl (af s) (v+1).toNat=L) (fun i=> (intOf i+1).toNat)
 case atStart=>exact⟨(s.size:Int) - 1,by go_num,by omega,by omega,by rw[HL.out];congr 1;omega⟩
 case round=>
  obtain⟨v,rfl,hv1,hv2,hv3⟩:=hrel;by_cases h0:0<=v
  ·obtain⟨k,rfl⟩:∃k:Nat,v=k:=⟨v.toNat,by omega⟩;have hk:k<s.size:=by omega
   have e1: ((k:Int) +1).toNat=k+1:=by omega
   rw[e1]at hv3;have hx:=HA.out k hk;by_cases hb: (s[k].toNat:Int) =47
   ·have hb': ((s[k].toNat:Int) ==47) =true:=by rw[hb];rfl
    have e2:L=k:=by rw[<- hv3];unfold fl;rw[if_pos (by rw[hx];exact hb)]
    clear hx;go_wp2;go_ret;exact⟨rfl,rfl⟩
   ·have hb': ((s[k].toNat:Int) ==47) =false:=by simpa using hb
    have e2:fl (af s) k=L:=by rw[<- hv3];conv=>rhs;unfold fl;rw[if_neg (by rw[hx];exact hb)]
    have E2:=ad e2;clear hx hv3 e2;go_wp2
    go_round
    case rel=>exact⟨(k:Int) - 1,by go_num,by omega,by omega,by rw[<- E2.out];congr 1;omega⟩
    case measure=>simp[intOf]
  ·obtain rfl:v= -1:=by omega
   have e2:L= -1:=by rw[<- hv3];rfl
   clear hv3;go_wp2;go_ret;exact⟨rfl,rfl⟩
theorem LL (s:ByteArray)(w:World)(hs:s.size<=maxLen) :Calls Tryz.prog 143 #[.string s,.int .u8 47] w fun e w'=>e= .returned (.int .i64 (fW (af s)))/\w=w':=by
 go_enter Tryz.func143,Tryz.ntmps143;go_wp2_with fail;refine(Cx s w hs).mono ?_;rintro e w1 ⟨rfl,rfl⟩;go_wp2_with fail;go_ret;exact⟨rfl,rfl⟩
theorem uZ:∀a b:List UInt8,Lib.compareBytes a b=aP (a.map fun x=> (x.toNat:Int)) (b.map fun x=> (x.toNat:Int))
 | [],[] =>rfl
 | [],_::_=>rfl
 |_::_,[] =>rfl
 |a::xs,b::ys=>by
  have e1: (a<b)↔((a.toNat:Int) < (b.toNat:Int)) :=by rw[UInt8.lt_iff_toNat_lt];omega
  have e2: (b<a)↔((b.toNat:Int) < (a.toNat:Int)) :=by rw[UInt8.lt_iff_toNat_lt];omega
  rw[List.map_cons,List.map_cons];unfold Lib.compareBytes aP;rw[uZ xs ys];by_cases h1:a<b
  ·rw[if_pos h1,if_pos (e1.1 h1)]
  ·rw[if_neg h1,if_neg (fun h=>h1 (e1.2 h))];by_cases h2:b<a
   ·rw[if_pos h2,if_pos (e2.1 h2)]
   ·rw[if_neg h2,if_neg (fun h=>h2 (e2.2 h))]
theorem Fz (s t:ByteArray)(w:World)(_:s.size<=maxLen)(_:t.size<=maxLen) :Calls Tryz.prog 97 #[.string s,.string t] w fun e w'=>e= .returned (.int .i64 (aP (af s) (af t)))/\Below w.heap.size w w':=by
 have e:=ad (show Lib.compareBytes s.data.toList t.data.toList=aP (af s) (af t) by rw[uZ,cm,cm]);rw[<- e.out];go_enter Tryz.func97,Tryz.ntmps97;go_wp2_with fail;refine(Tryz.strings_Compare s t w).mono ?_;rintro e w1 ⟨rfl,rfl⟩;go_wp2_with fail;go_ret;exact⟨rfl,aF⟩
theorem Ae (s:ByteArray)(w:World)(hs:s.size<=maxLen) :Calls Tryz.prog 92 #[.string s] w fun e w'=>e= .returned (.string (strOfNums (bh (af s))))/\Below w.heap.size w w':=by
 have hb:=rR (af s) (af s).length;rw[an]at hb;obtain⟨L,hL⟩:=named (fW (af s));have hb': -1<=L/\L<s.size:=by rw[hL.out];unfold fW;rw[an];exact hb
 obtain⟨b1,b2⟩:=hb';have HS:=ad hs;unfold maxLen at hs;clear hb;by_cases h0:L<0
 ·have e:bh (af s) = [] :=by unfold bh;rw[<- hL.out,if_pos h0]
  rw[e];go_enter Tryz.func92,Tryz.ntmps92;go_wp2_with fail;refine(LL s w HS.out).mono ?_;rintro e w1 ⟨rfl,rfl⟩;rw[<- hL.out];go_wp2_with fail;go_ret;exact⟨rfl,aF⟩
 ·obtain⟨k,rfl⟩:∃k:Nat,L=k:=⟨L.toNat,by omega⟩;have e:bh (af s) = (af s).take k:=by unfold bh;rw[<- hL.out,if_neg h0];rfl
  rw[e];go_enter Tryz.func92,Tryz.ntmps92;go_wp2_with fail;refine(LL s w HS.out).mono ?_;rintro e w1 ⟨rfl,rfl⟩;rw[<- hL.out];go_wp2_with fail;go_ret;exact⟨by show Ending.returned (.string (s.extract 0 k)) =_;rw[iw];rfl,aF⟩
end Go.Proofs.YtcjagakckffkiaaGreatDoor.Pnm
namespace Go.Proofs.YtcjagakckffkiaaGreatDoor.Tre
open Go.RowKit Go.MapKept Go.Proofs.YtcjagakckffkiaaGreatDoor.Fit Pnm
set_option maxRecDepth 100000 in
theorem Gv (a:Option Addr)(n cap:Nat)(ys:List aL)(w:World)(ha:br w a n cap ys)(HO:∀j,j<n->eT (nd (aI ys) j) =0) :
 Calls Tryz.prog 53 #[.slice a n cap] w fun e w'=>e= .returned (.tuple #[.int .i64 (dA (aI ys)).1,.int .i64 (dA (aI ys)).2])/\Below w.heap.size w w':=by
 have HA:=ad ha;have NZ:=ad Bm;have NO:=ad Cm;have ZI:Hid ((Tryz.prog.info? 3).map (·.zero) =some (some (.int .i64 0))) :=by show _=_;kernel_rfl
 have ZB:Hid ((Tryz.prog.info? 4).map (·.zero) =some (some (.bool false))) :=by show _=_;kernel_rfl
 have UMS:=ad Tryz.underlying151;have UMI:=ad Tryz.underlying171;have UMB:=ad Tryz.underlying150;have UKS:=ad Tryz.underlying9;have UKI:=ad Tryz.underlying3;have hn:n<=maxLen:=Nat.le_trans ha.c ha.m;have HN:Hid (ys.length=n) :=ha.n;have HL:Hid ((aI ys).length=n) :=by show _=_;rw[bg];exact ha.n
 obtain⟨X1,hX1⟩:=named (dA (aI ys)).1;obtain⟨X2,hX2⟩:=named (dA (aI ys)).2
 have FIN:Hid (∀j R:Int,∀i:Nat,j=i->i<n-> (∀k,k<i->jo (aI ys) k=0)->R=jo (aI ys) i->R≠0->X1=j/\X2=R) :=fun j R i hj hi hp hR h0=>by
  have:=Ld (l:=aI ys) (i:=i) (fun k hk=>HO k (by rw[<- HL.out];exact hk)) (by rw[HL.out];exact hi) hp (by rw[<- hR];exact h0);rw[hX1.out,hX2.out,this,hj,hR];exact⟨rfl,rfl⟩
 have END:Hid ((∀k,k<n->jo (aI ys) k=0)->X1=n/\X2=0) :=fun h=>by
  have:=qK (l:=aI ys) (fun k hk=>HO k (by rw[<- HL.out];exact hk)) (fun k hk=>h k (by rw[<- HL.out];exact hk));rw[hX1.out,hX2.out,this,HL.out];exact⟨rfl,rfl⟩
 have CLS:Hid (∀j,j<n->0<= (nd (aI ys) j).c) :=fun j hj=> (nw (HO j hj)).1;rw[<- hX1.out,<- hX2.out];unfold maxLen at hn;clear ha HO hX1 hX2;go_enter Tryz.func53,Tryz.ntmps53;go_wp2_with fail;refine(vY a n cap ys w HA.out).mono ?_;rintro e w1 ⟨g1,N1,rfl,m1,s1,b1⟩;have M1:=ad m1;have B1:=ad b1;have HA1:=ad (HA.out.below b1);clear m1 b1 s1;go_wp2_with fail;refine(wG a n cap ys w1 HA1.out).mono ?_;rintro e w2 ⟨g2,N2,rfl,m2,s2,b2⟩;have M2:=ad m2;have M12:=ad (M1.out.below b2 M1.out.lt);have B2:=ad (ar B1.out b2);have HA2:=ad (HA1.out.below b2);clear m2 b2 s2;go_wp2_with fail;refine(Fs a n cap ys w2 HA2.out).mono ?_;rintro e w3 ⟨g3,N3,rfl,m3,s3,b3⟩;have P3:=ad (M12.out.below b3 M12.out.lt);have C3:=ad (M2.out.below b3 M2.out.lt);have D3:=ad m3;have B3:=ad (ar B2.out b3);have HA3:=ad (HA2.out.below b3);clear m3 b3 s3 M1 M2 M12 HA HA1 HA2 B1 B2;go_wp2_with fail;go_loopw [18] (fun i wr=>∃j:Nat,i= .int .i64 j/\j<=n/\ (∀k,k<j->jo (aI ys) k=0)/\Below w3.heap.size w3 wr) (fun i _=>n- (intOf i).toNat)
 case atStart=>exact⟨0,rfl,Nat.zero_le _,fun k hk=>absurd hk (Nat.not_lt_zero k),aF⟩
 case round=>
  obtain⟨j,rfl,hj,hp,hB⟩:=hrel;have HP:=ad hp;have HB:=ad hB;have BW:=ad (ar B3.out hB);clear hp hB;by_cases hjn:j<n
  ·obtain⟨b,off,y,rfl,hb,hy,hf,hat⟩:=HA3.out.get j hjn;have hat':=hat.below HB.out hb;obtain⟨c0,c1,c2,c3,c4,c5⟩:=hat'.c hy;obtain⟨I0,i1,i2,i3⟩:=Jj (ys:=ys) hjn;obtain⟨J0,j1,j2,j3⟩:=KH (ys:=ys) (j:=j) (by rw[HN.out];exact hjn);rw[HN.out]at j2;obtain⟨b',off',z,e',hb',hz,hfz,hatz⟩:=HA3.out.get J0 (Nat.lt_of_le_of_lt j1 hjn)
   cases e'
   have AT:=ad hat;have FY:=ad hf;have FZ:=ad hfz;have HZ:=ad hz;have EY:Hid (nd (aI ys) j=y.n) :=oI hy;have EZ:Hid (nd (aI ys) J0=z.n) :=oI hz;have E0:Hid (pk ys j= .string y.n.p/\ck ys j= .int .i64 y.n.c) :=⟨by unfold pk;rw[EY.out],by unfold ck;rw[EY.out]⟩;have c00:Hid (0<=y.n.c) :=by show _<=_;rw[<- EY.out];exact CLS.out j hjn
   have HPS:Hid (y.n.p.size<=140737488355328) :=hf.p;have LP:=ad i2;have LC:=ad j2;have DUP:=ad i3;have ODD:=ad j3;have PAR:=ad (Jn (ys:=ys) (x:=nd (aI ys) j));obtain⟨T1,T2,T3,T4⟩:=NJ (l:=aI ys) (i:=j) rfl;have TG:=ad (And.intro T1 (And.intro T2 (And.intro T3 T4)));clear hat hat' hatz hf hfz hy hz i2 i3 j2 j3 T1 T2 T3 T4;have JN:Hid (J0<n) :=Nat.lt_of_le_of_lt j1 hjn;have I0J:Hid (I0<=j) :=i1;clear i1 j1 hb';obtain⟨⟨k,p,m,t,d,c⟩,x,xc⟩:=y;have HBND:=ad hb;obtain⟨L,hL⟩:=named d.length;have c4':wr.cell? ⟨b,off+j*6+4,none⟩=some (.slice x L xc) :=by rw[hL.out];exact c4
   clear c4 hb;have jn: (j:Int) <n:=by omega
   go_wp2_with (first| (refine ag rfl 77 rfl (bq 0 emp 0 emp none 0 0 0) NZ.out ?_;intro w4 g4 b4;have G4:=ad g4;have K4:=ad (HB.out.trans (b4.mono HB.out.size));clear g4 b4 c0 c1 c2 c3 c4' c5) | (refine ae rfl 77 _ _ rfl wr.heap.size rfl (bq k p m t x L xc c) (bq 0 emp 0 emp none 0 0 0) rfl 77 G4.out NO.out.2 rfl (bE _ _ _ _ _ _ _ _) ?_;intro w5 g5 t5;have G5:=ad g5;have K5:=ad (K4.out.trans (t5.below HB.out.size));have c1:=g5.get 1 rfl;clear g5 t5));refine(Ae p w5 (Nat.le_trans HPS.out (by decide))).mono ?_;rintro e w6 ⟨rfl,b6⟩;obtain⟨PS,hPS⟩:=named (strOfNums (bh (af p)));rw[<- hPS.out];have G6:=ad (G5.out.below b6 G5.out.lt);have K6:=ad (K5.out.trans (b6.mono K5.out.size));have c1:=G6.out.get 1 rfl;have c5:=G6.out.get 5 rfl;clear b6;have lp:= (bI (P:=Tryz.prog) (w:=w6) 151 9 3 UMS.out .string UKS.out (.int .i64 0) ZI.out g1 N1 (.string p) (show IsKey .string (.string p)from trivial) (fk (pk ys) n) (P3.out.below K6.out P3.out.lt)).2;rw[show fk (pk ys) n (.string p) =some (.int .i64 I0)from by have:=LP.out;rw[E0.out.1]at this;exact this]at lp;simp only[Option.getD_some]at lp;have BW6:=ad (ar B3.out K6.out);by_cases hD:I0=j
   ·subst hD;have NDU:Hid (¬Iq (aI ys) I0) :=fun h=>DUP.out.mpr h rfl
    have PAR':Hid (CD (aI ys) (nd (aI ys) I0)↔PS=emp\/∃i,i<n/\kk ys i=0/\pk ys i= .string PS) :=by
     show _↔_;rw[PAR.out,HN.out,hPS.out,EY.out];exact Iff.rfl
    clear DUP PAR
    obtain⟨PB,hPB⟩:∃PB:Bool,(dk (kk ys) (pk ys) n (.string PS)).getD (.bool false) = .bool PB/\ (PB=true↔∃i,i<n/\kk ys i=0/\pk ys i= .string PS) :=by
     rw[Ma];by_cases h:∃i,i<n/\kk ys i=0/\pk ys i= .string PS
     ·rw[if_pos h];exact⟨true,rfl,fun _=>h,fun _=>rfl⟩
     ·rw[if_neg h];exact⟨false,rfl,(fun e=>absurd e (by decide)),fun e=>absurd e h⟩
    have ld:= (bI (P:=Tryz.prog) (w:=w6) 150 9 4 UMB.out .string UKS.out (.bool false) ZB.out g3 N3 (.string PS) (show IsKey .string (.string PS)from trivial) (dk (kk ys) (pk ys) n) (D3.out.below K6.out D3.out.lt)).2;rw[hPB.1]at ld;have HPB:=ad hPB.2;clear hPB hPS
    have ways:Hid ((PS=emp\/ (PB=true/\¬PS=emp))\/ (PB=false/\¬PS=emp)) :=by
     show _\/_;by_cases h:PS=emp
     ·exact .inl (.inl h)
     ·cases PB with
      |true=>exact .inl (.inr ⟨rfl,h⟩)
      |false=>exact .inr ⟨rfl,h⟩
    rcases ways.out with hgood|⟨rfl,hne⟩
    ·have PYES:Hid (CD (aI ys) (nd (aI ys) I0)) :=PAR'.out.mpr (hgood.imp id fun h=>HPB.out.mp h.1);clear PAR' HPB ways;rcases hgood with rfl|⟨rfl,hne⟩
     ·clear ld;by_cases hc:c=0
      ·subst hc;have T0:Hid (jo (aI ys) I0=0) :=TG.out.2.2.2 NDU.out PYES.out fun⟨h,_⟩=>h (by rw[EY.out]);clear FIN END;go_wp2_with fail;refine aC (S:=fun w'=>Below w6.heap.size w6 w') (by kernel_rfl) (by kernel_rfl) aF.drew ?_;intro hne';have c5q:∀q:Of (fun w'=>Below w6.heap.size w6 w'),q.w.cell? ⟨wr.heap.size,5,none⟩=some (.int .i64 0) :=fun q=> (G6.out.below q.h G6.out.lt).get 5 rfl;clear c5
       repeat (go_big_quiet_step (fail))
       refine wpQuiet_nil ?_;rintro wq ⟨q,rfl⟩;go_wp2
       go_round
       case rel=>exact⟨I0+1,by go_num,by omega,fun k hk=>by
        by_cases h:k<I0
        ·exact HP.out k h
        ·obtain rfl:k=I0:=by omega
         exact T0.out,ar K6.out q.h⟩
       case measure=>simp[intOf];omega
      ·have cp: (0:Int) <c:=by have:0<=c:=c00.out;omega
       obtain⟨B,hBB⟩:=named (decide (m=z.n.m/\d=z.n.d))
       have SF:Hid (∀w',Below w6.heap.size w6 w'->Calls Tryz.prog 93 #[.agg (bq k p m t x L xc c).toArray,.agg (fy z).toArray] w' fun e w''=>e= .returned (.bool B)/\Below w'.heap.size w' w'') :=fun w' hb=>by
        rw[hBB.out,hL.out];exact nD ⟨⟨k,p,m,t,d,c⟩,x,xc⟩ z w' (FY.out.below (ar K6.out hb)) (FZ.out.below (ar K6.out hb))
       have OD:Hid (Io (aI ys) (nd (aI ys) I0)↔B=false) :=by
        show _↔_;rw[ODD.out (by rw[EY.out];exact hc),EZ.out,EY.out,hBB.out,decide_eq_false_iff_not]
       have zq:∀(q:Of (fun w'=>Below w6.heap.size w6 w')),∀i v,(fy z)[i]? =some v->q.w.cell? ⟨b,off+J0*6+i,none⟩=some v:=fun q i v hv=> (AT.out.below (ar K6.out q.h) HBND.out) J0 z HZ.out i v hv;obtain⟨⟨k',p',m',t',d',c'⟩,x',xc'⟩:=z;obtain⟨L',hL'⟩:=named d'.length;have SF':Hid (∀w',Below w6.heap.size w6 w'->Calls Tryz.prog 93 #[.agg (bq k p m t x L xc c).toArray,.agg (bq k' p' m' t' x' L' xc' c').toArray] w' fun e w''=>e= .returned (.bool B)/\Below w'.heap.size w' w'') :=by rw[hL'.out];exact SF.out
       have z0:=fun q=>zq q 0 _ rfl;have z1:=fun q=>zq q 1 _ rfl;have z2:=fun q=>zq q 2 _ rfl;have z3:=fun q=>zq q 3 _ rfl;have z4:=fun q=>zq q 4 _ rfl;have z5:=fun q=>zq q 5 _ rfl;have z4':∀q:Of (fun w'=>Below w6.heap.size w6 w'),q.w.cell? ⟨b,off+J0*6+4,none⟩=some (.slice x' L' xc') :=fun q=>by rw[hL'.out];exact z4 q
       have z0':∀q:Of (fun w'=>Below w6.heap.size w6 w'),q.w.cell? ⟨b,off+J0*6,none⟩=some (.int .i64 k') :=fun q=>z0 q;have y0:∀q:Of (fun w'=>Below w6.heap.size w6 w'),q.w.cell? ⟨wr.heap.size,0,none⟩=some (.int .i64 k) :=fun q=> (G6.out.below q.h G6.out.lt).get 0 rfl;have y1:∀q:Of (fun w'=>Below w6.heap.size w6 w'),q.w.cell? ⟨wr.heap.size,1,none⟩=some (.string p) :=fun q=> (G6.out.below q.h G6.out.lt).get 1 rfl;have y2:∀q:Of (fun w'=>Below w6.heap.size w6 w'),q.w.cell? ⟨wr.heap.size,2,none⟩=some (.int .i64 m) :=fun q=> (G6.out.below q.h G6.out.lt).get 2 rfl;have y3:∀q:Of (fun w'=>Below w6.heap.size w6 w'),q.w.cell? ⟨wr.heap.size,3,none⟩=some (.string t) :=fun q=> (G6.out.below q.h G6.out.lt).get 3 rfl;have y4:∀q:Of (fun w'=>Below w6.heap.size w6 w'),q.w.cell? ⟨wr.heap.size,4,none⟩=some (.slice x L xc) :=fun q=> (G6.out.below q.h G6.out.lt).get 4 rfl;have y5:∀q:Of (fun w'=>Below w6.heap.size w6 w'),q.w.cell? ⟨wr.heap.size,5,none⟩=some (.int .i64 c) :=fun q=> (G6.out.below q.h G6.out.lt).get 5 rfl
       have lc:∀q:Of (fun w'=>Below w6.heap.size w6 w'),(Instr.lookup 171 (.map (some g2)) (.int .i64 c) false).run Tryz.prog q.w= .ok (.int .i64 J0) q.w:=fun q=>by
        have lq:= (bI (P:=Tryz.prog) (w:=q.w) 171 3 3 UMI.out (.int .i64) UKI.out (.int .i64 0) ZI.out g2 N2 (.int .i64 c) (show IsKey (.int .i64) (.int .i64 c)from rfl) (fk (ck ys) n) (C3.out.below (ar K6.out q.h) C3.out.lt)).2;rw[show fk (ck ys) n (.int .i64 c) =some (.int .i64 J0)from by have:=LC.out;rw[E0.out.2]at this;exact this]at lq;exact lq
       have jn': (J0:Int) <n:=by have:=JN.out;omega
       clear zq z0 z4 SF hL hL' hBB c5 ODD EZ AT FY FZ HZ LC hc JN
       cases B with
       |true=>
        have T0:Hid (jo (aI ys) I0=0) :=TG.out.2.2.2 NDU.out PYES.out fun h=>by have:=OD.out.mp h;cases this
        clear FIN END OD;go_wp2_with fail;refine aC (S:=fun w'=>Below w6.heap.size w6 w') (by kernel_rfl) (by kernel_rfl) aF.drew ?_;intro hne'
        repeat (go_big_quiet_step ((go_at_call 93;exact Calls.kU (SF'.out) fun w' hb q=>q.trans (hb.mono q.size))))
        refine wpQuiet_nil ?_;rintro wq ⟨q,rfl⟩;go_wp2
        go_round
        case rel=>exact⟨I0+1,by go_num,by omega,fun k hk=>by
         by_cases h:k<I0
         ·exact HP.out k h
         ·obtain rfl:k=I0:=by omega
          exact T0.out,ar K6.out q.h⟩
        case measure=>simp[intOf];omega
       |false=>
        obtain⟨q1,q2⟩:=FIN.out I0 15 I0 rfl hjn HP.out (TG.out.2.2.1 NDU.out PYES.out (OD.out.mpr rfl)).symm (by decide);subst q1 q2;clear FIN END OD;go_wp2_with fail;refine aC (S:=fun w'=>Below w6.heap.size w6 w') (by kernel_rfl) (by kernel_rfl) aF.drew ?_;intro hne'
        repeat (go_big_quiet_step ((go_at_call 93;exact Calls.kU (SF'.out) fun w' hb q=>q.trans (hb.mono q.size))))
        refine wpQuiet_nil ?_;rintro wq ⟨q,rfl⟩;go_wp2;go_ret2;exact⟨rfl,BW6.out.trans (q.h.mono BW6.out.size)⟩
     ·have hi:=ed hne;clear hne;by_cases hc:c=0
      ·subst hc;have T0:Hid (jo (aI ys) I0=0) :=TG.out.2.2.2 NDU.out PYES.out fun⟨h,_⟩=>h (by rw[EY.out]);clear FIN END;go_wp2_with fail;refine aC (S:=fun w'=>Below w6.heap.size w6 w') (by kernel_rfl) (by kernel_rfl) aF.drew ?_;intro hne';have c5q:∀q:Of (fun w'=>Below w6.heap.size w6 w'),q.w.cell? ⟨wr.heap.size,5,none⟩=some (.int .i64 0) :=fun q=> (G6.out.below q.h G6.out.lt).get 5 rfl;clear c5
       repeat (go_big_quiet_step (fail))
       refine wpQuiet_nil ?_;rintro wq ⟨q,rfl⟩;go_wp2
       go_round
       case rel=>exact⟨I0+1,by go_num,by omega,fun k hk=>by
        by_cases h:k<I0
        ·exact HP.out k h
        ·obtain rfl:k=I0:=by omega
         exact T0.out,ar K6.out q.h⟩
       case measure=>simp[intOf];omega
      ·have cp: (0:Int) <c:=by have:0<=c:=c00.out;omega
       obtain⟨B,hBB⟩:=named (decide (m=z.n.m/\d=z.n.d))
       have SF:Hid (∀w',Below w6.heap.size w6 w'->Calls Tryz.prog 93 #[.agg (bq k p m t x L xc c).toArray,.agg (fy z).toArray] w' fun e w''=>e= .returned (.bool B)/\Below w'.heap.size w' w'') :=fun w' hb=>by
        rw[hBB.out,hL.out];exact nD ⟨⟨k,p,m,t,d,c⟩,x,xc⟩ z w' (FY.out.below (ar K6.out hb)) (FZ.out.below (ar K6.out hb))
       have OD:Hid (Io (aI ys) (nd (aI ys) I0)↔B=false) :=by
        show _↔_;rw[ODD.out (by rw[EY.out];exact hc),EZ.out,EY.out,hBB.out,decide_eq_false_iff_not]
       have zq:∀(q:Of (fun w'=>Below w6.heap.size w6 w')),∀i v,(fy z)[i]? =some v->q.w.cell? ⟨b,off+J0*6+i,none⟩=some v:=fun q i v hv=> (AT.out.below (ar K6.out q.h) HBND.out) J0 z HZ.out i v hv;obtain⟨⟨k',p',m',t',d',c'⟩,x',xc'⟩:=z;obtain⟨L',hL'⟩:=named d'.length;have SF':Hid (∀w',Below w6.heap.size w6 w'->Calls Tryz.prog 93 #[.agg (bq k p m t x L xc c).toArray,.agg (bq k' p' m' t' x' L' xc' c').toArray] w' fun e w''=>e= .returned (.bool B)/\Below w'.heap.size w' w'') :=by rw[hL'.out];exact SF.out
       have z0:=fun q=>zq q 0 _ rfl;have z1:=fun q=>zq q 1 _ rfl;have z2:=fun q=>zq q 2 _ rfl;have z3:=fun q=>zq q 3 _ rfl;have z4:=fun q=>zq q 4 _ rfl;have z5:=fun q=>zq q 5 _ rfl;have z4':∀q:Of (fun w'=>Below w6.heap.size w6 w'),q.w.cell? ⟨b,off+J0*6+4,none⟩=some (.slice x' L' xc') :=fun q=>by rw[hL'.out];exact z4 q
       have z0':∀q:Of (fun w'=>Below w6.heap.size w6 w'),q.w.cell? ⟨b,off+J0*6,none⟩=some (.int .i64 k') :=fun q=>z0 q;have y0:∀q:Of (fun w'=>Below w6.heap.size w6 w'),q.w.cell? ⟨wr.heap.size,0,none⟩=some (.int .i64 k) :=fun q=> (G6.out.below q.h G6.out.lt).get 0 rfl;have y1:∀q:Of (fun w'=>Below w6.heap.size w6 w'),q.w.cell? ⟨wr.heap.size,1,none⟩=some (.string p) :=fun q=> (G6.out.below q.h G6.out.lt).get 1 rfl;have y2:∀q:Of (fun w'=>Below w6.heap.size w6 w'),q.w.cell? ⟨wr.heap.size,2,none⟩=some (.int .i64 m) :=fun q=> (G6.out.below q.h G6.out.lt).get 2 rfl;have y3:∀q:Of (fun w'=>Below w6.heap.size w6 w'),q.w.cell? ⟨wr.heap.size,3,none⟩=some (.string t) :=fun q=> (G6.out.below q.h G6.out.lt).get 3 rfl;have y4:∀q:Of (fun w'=>Below w6.heap.size w6 w'),q.w.cell? ⟨wr.heap.size,4,none⟩=some (.slice x L xc) :=fun q=> (G6.out.below q.h G6.out.lt).get 4 rfl;have y5:∀q:Of (fun w'=>Below w6.heap.size w6 w'),q.w.cell? ⟨wr.heap.size,5,none⟩=some (.int .i64 c) :=fun q=> (G6.out.below q.h G6.out.lt).get 5 rfl
       have lc:∀q:Of (fun w'=>Below w6.heap.size w6 w'),(Instr.lookup 171 (.map (some g2)) (.int .i64 c) false).run Tryz.prog q.w= .ok (.int .i64 J0) q.w:=fun q=>by
        have lq:= (bI (P:=Tryz.prog) (w:=q.w) 171 3 3 UMI.out (.int .i64) UKI.out (.int .i64 0) ZI.out g2 N2 (.int .i64 c) (show IsKey (.int .i64) (.int .i64 c)from rfl) (fk (ck ys) n) (C3.out.below (ar K6.out q.h) C3.out.lt)).2;rw[show fk (ck ys) n (.int .i64 c) =some (.int .i64 J0)from by have:=LC.out;rw[E0.out.2]at this;exact this]at lq;exact lq
       have jn': (J0:Int) <n:=by have:=JN.out;omega
       clear zq z0 z4 SF hL hL' hBB c5 ODD EZ AT FY FZ HZ LC hc JN
       cases B with
       |true=>
        have T0:Hid (jo (aI ys) I0=0) :=TG.out.2.2.2 NDU.out PYES.out fun h=>by have:=OD.out.mp h;cases this
        clear FIN END OD;go_wp2_with fail;refine aC (S:=fun w'=>Below w6.heap.size w6 w') (by kernel_rfl) (by kernel_rfl) aF.drew ?_;intro hne'
        repeat (go_big_quiet_step ((go_at_call 93;exact Calls.kU (SF'.out) fun w' hb q=>q.trans (hb.mono q.size))))
        refine wpQuiet_nil ?_;rintro wq ⟨q,rfl⟩;go_wp2
        go_round
        case rel=>exact⟨I0+1,by go_num,by omega,fun k hk=>by
         by_cases h:k<I0
         ·exact HP.out k h
         ·obtain rfl:k=I0:=by omega
          exact T0.out,ar K6.out q.h⟩
        case measure=>simp[intOf];omega
       |false=>
        obtain⟨q1,q2⟩:=FIN.out I0 15 I0 rfl hjn HP.out (TG.out.2.2.1 NDU.out PYES.out (OD.out.mpr rfl)).symm (by decide);subst q1 q2;clear FIN END OD;go_wp2_with fail;refine aC (S:=fun w'=>Below w6.heap.size w6 w') (by kernel_rfl) (by kernel_rfl) aF.drew ?_;intro hne'
        repeat (go_big_quiet_step ((go_at_call 93;exact Calls.kU (SF'.out) fun w' hb q=>q.trans (hb.mono q.size))))
        refine wpQuiet_nil ?_;rintro wq ⟨q,rfl⟩;go_wp2;go_ret2;exact⟨rfl,BW6.out.trans (q.h.mono BW6.out.size)⟩
    ·have PNO:Hid (¬CD (aI ys) (nd (aI ys) I0)) :=fun h=>by
      rcases PAR'.out.mp h with h|h
      ·exact hne h
      ·have:=HPB.out.mpr h;cases this
     have hi:=ed hne;obtain⟨q1,q2⟩:=FIN.out I0 13 I0 rfl hjn HP.out (TG.out.2.1 NDU.out PNO.out).symm (by decide);subst q1 q2;clear PAR' HPB ways hne FIN END;go_wp2_with fail;go_ret2;exact⟨rfl,BW6.out⟩
   ·have hd: ((I0:Int) != (j:Int)) =true:=by simp;omega
    obtain⟨q1,q2⟩:=FIN.out j 14 j rfl hjn HP.out (TG.out.1 (DUP.out.mp hD)).symm (by decide);subst q1 q2;clear FIN END hD;go_wp2_with fail;go_ret2;exact⟨rfl,BW6.out⟩
  ·obtain rfl:j=n:=by omega
   obtain⟨q1,q2⟩:=END.out HP.out;subst q1 q2;clear FIN END;go_wp2;go_ret2;exact⟨rfl,BW.out⟩
end Go.Proofs.YtcjagakckffkiaaGreatDoor.Tre
