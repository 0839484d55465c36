import Derived.Test.YtcjagakckffkiaaGreatDoorS25
set_option maxHeartbeats 16000000
set_option maxRecDepth 100000
namespace Go.Proofs.YtcjagakckffkiaaGreatDoor
namespace Pnm
open Go.RowKit
theorem vx (s:ByteArray)(w:World)(hs:s.size<=maxLen) :Calls Tryz.prog 192 #[.string s,.int .u8 47] w fun e w'=>e= .returned (.int .i64 (dB (ad s)))/\w=w':=by
 unfold maxLen at hs;obtain⟨L,hL⟩:=named (dB (ad s));have HL:Hid (L=de (ad s) s.size) :=by show _=_;rw[hL.out];unfold dB;rw[ah]
 have HA:Hid (∀j (h:j<s.size),(ad s).getD j 0= (s[j].toNat:Int)) :=dC s;rw[<- hL.out];clear hL;go_enter Tryz.func192,Tryz.ntmps192;go_wp2;go_loop [5] (fun i=>∃v:Int,i= .int .i64 v/\ -1<=v/\v<s.size/\de (ad s) (v+1).toNat=L) (fun i=> (intOf i+1).toNat)
 case atStart=>exact⟨(s.size:Int) - 1,by go_num,by omega,by omega,by rw[HL.out];congr 1;omega⟩
 case round=>
  obtain⟨v,rfl,hv1,hv2,hv3⟩:=hrel;by_cases h0:0<=v
  ·obtain⟨k,rfl⟩:∃k:Nat,v=k:=⟨v.toNat,by omega⟩;have hk:k<s.size:=by omega
   have e1: ((k:Int) +1).toNat=k+1:=by omega
   rw[e1]at hv3;have hx:=HA.out k hk;by_cases hb: (s[k].toNat:Int) =47
   ·have hb': ((s[k].toNat:Int) ==47) =true:=by rw[hb];rfl
    have e2:L=k:=by rw[<- hv3];unfold de;rw[if_pos (by rw[hx];exact hb)]
    clear hx;go_wp2;go_ret;exact⟨rfl,rfl⟩
   ·have hb': ((s[k].toNat:Int) ==47) =false:=by simpa using hb
    have e2:de (ad s) k=L:=by rw[<- hv3];conv=>rhs;unfold de;rw[if_neg (by rw[hx];exact hb)]
    have E2:=aa e2;clear hx hv3 e2;go_wp2
    go_round
    case rel=>exact⟨(k:Int) - 1,by go_num,by omega,by omega,by rw[<- E2.out];congr 1;omega⟩
    case measure=>simp[intOf]
  ·obtain rfl:v= -1:=by omega
   have e2:L= -1:=by rw[<- hv3];rfl
   clear hv3;go_wp2;go_ret;exact⟨rfl,rfl⟩
theorem Co (s:ByteArray)(w:World)(hs:s.size<=maxLen) :Calls Tryz.prog 143 #[.string s,.int .u8 47] w fun e w'=>e= .returned (.int .i64 (dB (ad s)))/\w=w':=by
 go_enter Tryz.func143,Tryz.ntmps143;go_wp2_with fail;refine(vx s w hs).mono ?_;rintro e w1 ⟨rfl,rfl⟩;go_wp2_with fail;go_ret;exact⟨rfl,rfl⟩
theorem tO:∀a b:List UInt8,Lib.compareBytes a b=aR (a.map fun x=> (x.toNat:Int)) (b.map fun x=> (x.toNat:Int))
 | [],[] =>rfl
 | [],_::_=>rfl
 |_::_,[] =>rfl
 |a::xs,b::ys=>by
  have e1: (a<b)↔((a.toNat:Int) < (b.toNat:Int)) :=by rw[UInt8.lt_iff_toNat_lt];omega
  have e2: (b<a)↔((b.toNat:Int) < (a.toNat:Int)) :=by rw[UInt8.lt_iff_toNat_lt];omega
  rw[List.map_cons,List.map_cons];unfold Lib.compareBytes aR;rw[tO xs ys];by_cases h1:a<b
  ·rw[if_pos h1,if_pos (e1.1 h1)]
  ·rw[if_neg h1,if_neg (fun h=>h1 (e1.2 h))];by_cases h2:b<a
   ·rw[if_pos h2,if_pos (e2.1 h2)]
   ·rw[if_neg h2,if_neg (fun h=>h2 (e2.2 h))]
theorem Bf (s:ByteArray)(w:World)(hs:s.size<=maxLen) :Calls Tryz.prog 92 #[.string s] w fun e w'=>e= .returned (.string (strOfNums (dt (ad s))))/\Below w.heap.size w w':=by
 have hb:=jy (ad s) (ad s).length;rw[ah]at hb;obtain⟨L,hL⟩:=named (dB (ad s));have hb': -1<=L/\L<s.size:=by rw[hL.out];unfold dB;rw[ah];exact hb
 obtain⟨b1,b2⟩:=hb';have HS:=aa hs;unfold maxLen at hs;clear hb;by_cases h0:L<0
 ·have e:dt (ad s) = [] :=by unfold dt;rw[<- hL.out,if_pos h0]
  rw[e];go_enter Tryz.func92,Tryz.ntmps92;go_wp2_with fail;refine(Co s w HS.out).mono ?_;rintro e w1 ⟨rfl,rfl⟩;rw[<- hL.out];go_wp2_with fail;go_ret;exact⟨rfl,au⟩
 ·obtain⟨k,rfl⟩:∃k:Nat,L=k:=⟨L.toNat,by omega⟩;have e:dt (ad s) = (ad s).take k:=by unfold dt;rw[<- hL.out,if_neg h0];rfl
  rw[e];go_enter Tryz.func92,Tryz.ntmps92;go_wp2_with fail;refine(Co s w HS.out).mono ?_;rintro e w1 ⟨rfl,rfl⟩;rw[<- hL.out];go_wp2_with fail;go_ret;exact⟨by show Ending.returned (.string (s.extract 0 k)) =_;rw[fg];rfl,au⟩
end Pnm
namespace Tre
open Go.RowKit Go.MapKept Go.Proofs.YtcjagakckffkiaaGreatDoor.Fit Pnm
theorem yw (a:Option Addr)(n cap:Nat)(ys:List aP)(w:World)(ha:bA w a n cap ys)(HO:∀j,j<n->cI (nd (ax ys) j) =0) :
 Calls Tryz.prog 53 #[.slice a n cap] w fun e w'=>e= .returned (.tuple #[.int .i64 (cA (ax ys)).1,.int .i64 (cA (ax ys)).2])/\Below w.heap.size w w':=by
 have HA:=aa ha;have NZ:=aa zH;have NO:=aa zF;have ZI:Hid ((Tryz.prog.info? 3).map (·.zero) =some (some (.int .i64 0))) :=by show _=_;kernel_rfl
 have ZB:Hid ((Tryz.prog.info? 4).map (·.zero) =some (some (.bool false))) :=by show _=_;kernel_rfl
 have UMS:=aa Tryz.underlying151;have UMI:=aa Tryz.underlying171;have UMB:=aa Tryz.underlying150;have UKS:=aa Tryz.underlying9;have UKI:=aa Tryz.underlying3;have hn:n<=maxLen:=Nat.le_trans ha.c ha.m;have HN:Hid (ys.length=n) :=ha.n;have HL:Hid ((ax ys).length=n) :=by show _=_;rw[aV];exact ha.n
 obtain⟨X1,hX1⟩:=named (cA (ax ys)).1;obtain⟨X2,hX2⟩:=named (cA (ax ys)).2
 have FIN:Hid (∀j R:Int,∀i:Nat,j=i->i<n-> (∀k,k<i->eR (ax ys) k=0)->R=eR (ax ys) i->R≠0->X1=j/\X2=R) :=fun j R i hj hi hp hR h0=>by
  have:=tJ (l:=ax ys) (i:=i) (fun k hk=>HO k (by rw[<- HL.out];exact hk)) (by rw[HL.out];exact hi) hp (by rw[<- hR];exact h0);rw[hX1.out,hX2.out,this,hj,hR];exact⟨rfl,rfl⟩
 have END:Hid ((∀k,k<n->eR (ax ys) k=0)->X1=n/\X2=0) :=fun h=>by
  have:=ji (l:=ax ys) (fun k hk=>HO k (by rw[<- HL.out];exact hk)) (fun k hk=>h k (by rw[<- HL.out];exact hk));rw[hX1.out,hX2.out,this,HL.out];exact⟨rfl,rfl⟩
 have CLS:Hid (∀j,j<n->0<= (nd (ax ys) j).c) :=fun j hj=> (kW (HO j hj)).1;rw[<- hX1.out,<- hX2.out];unfold maxLen at hn;clear ha HO hX1 hX2;go_enter Tryz.func53,Tryz.ntmps53;go_wp2_with fail;refine(qP a n cap ys w HA.out).mono ?_;rintro e w1 ⟨g1,N1,rfl,m1,s1,b1⟩;have M1:=aa m1;have B1:=aa b1;have HA1:=aa (HA.out.below b1);clear m1 b1 s1;go_wp2_with fail;refine(qO a n cap ys w1 HA1.out).mono ?_;rintro e w2 ⟨g2,N2,rfl,m2,s2,b2⟩;have M2:=aa m2;have M12:=aa (M1.out.below b2 M1.out.lt);have B2:=aa (ar B1.out b2);have HA2:=aa (HA1.out.below b2);clear m2 b2 s2;go_wp2_with fail;refine(xk a n cap ys w2 HA2.out).mono ?_;rintro e w3 ⟨g3,N3,rfl,m3,s3,b3⟩;have P3:=aa (M12.out.below b3 M12.out.lt);have C3:=aa (M2.out.below b3 M2.out.lt);have D3:=aa m3;have B3:=aa (ar B2.out b3);have HA3:=aa (HA2.out.below b3);clear m3 b3 s3 M1 M2 M12 HA HA1 HA2 B1 B2;go_wp2_with fail;go_loopw [18] (fun i wr=>∃j:Nat,i= .int .i64 j/\j<=n/\ (∀k,k<j->eR (ax ys) k=0)/\Below w3.heap.size w3 wr) (fun i _=>n- (intOf i).toNat)
 case atStart=>exact⟨0,rfl,Nat.zero_le _,fun k hk=>absurd hk (Nat.not_lt_zero k),au⟩
 case round=>
  obtain⟨j,rfl,hj,hp,hB⟩:=hrel;have HP:=aa hp;have HB:=aa hB;have BW:=aa (ar B3.out hB);clear hp hB;by_cases hjn:j<n
  ·obtain⟨b,off,y,rfl,hb,hy,hf,hat⟩:=HA3.out.get j hjn;have hat':=hat.below HB.out hb;obtain⟨c0,c1,c2,c3,c4,c5⟩:=hat'.c hy;obtain⟨I0,i1,i2,i3⟩:=Ac (ys:=ys) hjn;obtain⟨J0,j1,j2,j3⟩:=uw (ys:=ys) (j:=j) (by rw[HN.out];exact hjn);rw[HN.out]at j2;obtain⟨b',off',z,e',hb',hz,hfz,hatz⟩:=HA3.out.get J0 (Nat.lt_of_le_of_lt j1 hjn)
   cases e'
   have AT:=aa hat;have FY:=aa hf;have FZ:=aa hfz;have HZ:=aa hz;have EY:Hid (nd (ax ys) j=y.n) :=fS hy;have EZ:Hid (nd (ax ys) J0=z.n) :=fS hz;have E0:Hid (pk ys j= .string y.n.p/\ck ys j= .int .i64 y.n.c) :=⟨by unfold pk;rw[EY.out],by unfold ck;rw[EY.out]⟩;have c00:Hid (0<=y.n.c) :=by show _<=_;rw[<- EY.out];exact CLS.out j hjn
   have HPS:Hid (y.n.p.size<=140737488355328) :=hf.p;have LP:=aa i2;have LC:=aa j2;have DUP:=aa i3;have ODD:=aa j3;have PAR:=aa (Bb (ys:=ys) (x:=nd (ax ys) j));obtain⟨T1,T2,T3,T4⟩:=zr (l:=ax ys) (i:=j) rfl;have TG:=aa (And.intro T1 (And.intro T2 (And.intro T3 T4)));clear hat hat' hatz hf hfz hy hz i2 i3 j2 j3 T1 T2 T3 T4;have JN:Hid (J0<n) :=Nat.lt_of_le_of_lt j1 hjn;have I0J:Hid (I0<=j) :=i1;clear i1 j1 hb';obtain⟨⟨k,p,m,t,d,c⟩,x,xc⟩:=y;have HBND:=aa hb;obtain⟨L,hL⟩:=named d.length;have c4':wr.cell? ⟨b,off+j*6+4,none⟩=some (.slice x L xc) :=by rw[hL.out];exact c4
   clear c4 hb;have jn: (j:Int) <n:=by omega
   go_wp2_with (first| (refine ag rfl 77 rfl (cg 0 emp 0 emp none 0 0 0) NZ.out ?_;intro w4 g4 b4;have G4:=aa g4;have K4:=aa (HB.out.trans (b4.mono HB.out.size));clear g4 b4 c0 c1 c2 c3 c4' c5) | (refine ae rfl 77 _ _ rfl wr.heap.size rfl (cg k p m t x L xc c) (cg 0 emp 0 emp none 0 0 0) rfl 77 G4.out NO.out.2 rfl (dK _ _ _ _ _ _ _ _) ?_;intro w5 g5 t5;have G5:=aa g5;have K5:=aa (K4.out.trans (t5.below HB.out.size));have c1:=g5.get 1 rfl;clear g5 t5));refine(Bf p w5 (Nat.le_trans HPS.out (by decide))).mono ?_;rintro e w6 ⟨rfl,b6⟩;obtain⟨PS,hPS⟩:=named (strOfNums (dt (ad p)));rw[<- hPS.out];have G6:=aa (G5.out.below b6 G5.out.lt);have K6:=aa (K5.out.trans (b6.mono K5.out.size));have c1:=G6.out.get 1 rfl;have c5:=G6.out.get 5 rfl;clear b6;have lp:= (bE (P:=Tryz.prog) (w:=w6) 151 9 3 UMS.out .string UKS.out (.int .i64 0) ZI.out g1 N1 (.string p) (show IsKey .string (.string p)from trivial) (fk (pk ys) n) (P3.out.below K6.out P3.out.lt)).2;rw[show fk (pk ys) n (.string p) =some (.int .i64 I0)from by have:=LP.out;rw[E0.out.1]at this;exact this]at lp;simp only[Option.getD_some]at lp;have BW6:=aa (ar B3.out K6.out);by_cases hD:I0=j
   ·subst hD;have NDU:Hid (¬wh (ax ys) I0) :=fun h=>DUP.out.mpr h rfl
    have PAR':Hid (qv (ax ys) (nd (ax ys) I0)↔PS=emp\/∃i,i<n/\kk ys i=0/\pk ys i= .string PS) :=by
     show _↔_;rw[PAR.out,HN.out,hPS.out,EY.out];exact Iff.rfl
    clear DUP PAR
    obtain⟨PB,hPB⟩:∃PB:Bool,(dk (kk ys) (pk ys) n (.string PS)).getD (.bool false) = .bool PB/\ (PB=true↔∃i,i<n/\kk ys i=0/\pk ys i= .string PS) :=by
     rw[Ch];by_cases h:∃i,i<n/\kk ys i=0/\pk ys i= .string PS
     ·rw[if_pos h];exact⟨true,rfl,fun _=>h,fun _=>rfl⟩
     ·rw[if_neg h];exact⟨false,rfl,(fun e=>absurd e (by decide)),fun e=>absurd e h⟩
    have ld:= (bE (P:=Tryz.prog) (w:=w6) 150 9 4 UMB.out .string UKS.out (.bool false) ZB.out g3 N3 (.string PS) (show IsKey .string (.string PS)from trivial) (dk (kk ys) (pk ys) n) (D3.out.below K6.out D3.out.lt)).2;rw[hPB.1]at ld;have HPB:=aa hPB.2;clear hPB hPS
    have ways:Hid ((PS=emp\/ (PB=true/\¬PS=emp))\/ (PB=false/\¬PS=emp)) :=by
     show _\/_;by_cases h:PS=emp
     ·exact .inl (.inl h)
     ·cases PB with
      |true=>exact .inl (.inr ⟨rfl,h⟩)
      |false=>exact .inr ⟨rfl,h⟩
    rcases ways.out with hgood|⟨rfl,hne⟩
    ·have PYES:Hid (qv (ax ys) (nd (ax ys) I0)) :=PAR'.out.mpr (hgood.imp id fun h=>HPB.out.mp h.1);clear PAR' HPB ways;rcases hgood with rfl|⟨rfl,hne⟩
     ·clear ld;by_cases hc:c=0
      ·subst hc;have T0:Hid (eR (ax ys) I0=0) :=TG.out.2.2.2 NDU.out PYES.out fun⟨h,_⟩=>h (by rw[EY.out]);clear FIN END;go_wp2_with fail;refine aq (S:=fun w'=>Below w6.heap.size w6 w') (by kernel_rfl) (by kernel_rfl) au.drew ?_;intro hne';have c5q:∀q:Of (fun w'=>Below w6.heap.size w6 w'),q.w.cell? ⟨wr.heap.size,5,none⟩=some (.int .i64 0) :=fun q=> (G6.out.below q.h G6.out.lt).get 5 rfl;clear c5
       repeat (go_big_quiet_step (fail))
       refine wpQuiet_nil ?_;rintro wq ⟨q,rfl⟩;go_wp2
       go_round
       case rel=>exact⟨I0+1,by go_num,by omega,fun k hk=>by
        by_cases h:k<I0
        ·exact HP.out k h
        ·obtain rfl:k=I0:=by omega
         exact T0.out,ar K6.out q.h⟩
       case measure=>simp[intOf];omega
      ·have cp: (0:Int) <c:=by have:0<=c:=c00.out;omega
       obtain⟨B,hBB⟩:=named (decide (m=z.n.m/\d=z.n.d))
       have SF:Hid (∀w',Below w6.heap.size w6 w'->Calls Tryz.prog 93 #[.agg (cg k p m t x L xc c).toArray,.agg (eY z).toArray] w' fun e w''=>e= .returned (.bool B)/\Below w'.heap.size w' w'') :=fun w' hb=>by
        rw[hBB.out,hL.out];exact jP ⟨⟨k,p,m,t,d,c⟩,x,xc⟩ z w' (FY.out.below (ar K6.out hb)) (FZ.out.below (ar K6.out hb))
       have OD:Hid (wi (ax ys) (nd (ax ys) I0)↔B=false) :=by
        show _↔_;rw[ODD.out (by rw[EY.out];exact hc),EZ.out,EY.out,hBB.out,decide_eq_false_iff_not]
       have zq:∀(q:Of (fun w'=>Below w6.heap.size w6 w')),∀i v,(eY z)[i]? =some v->q.w.cell? ⟨b,off+J0*6+i,none⟩=some v:=fun q i v hv=> (AT.out.below (ar K6.out q.h) HBND.out) J0 z HZ.out i v hv;obtain⟨⟨k',p',m',t',d',c'⟩,x',xc'⟩:=z;obtain⟨L',hL'⟩:=named d'.length;have SF':Hid (∀w',Below w6.heap.size w6 w'->Calls Tryz.prog 93 #[.agg (cg k p m t x L xc c).toArray,.agg (cg k' p' m' t' x' L' xc' c').toArray] w' fun e w''=>e= .returned (.bool B)/\Below w'.heap.size w' w'') :=by rw[hL'.out];exact SF.out
       have z0:=fun q=>zq q 0 _ rfl;have z1:=fun q=>zq q 1 _ rfl;have z2:=fun q=>zq q 2 _ rfl;have z3:=fun q=>zq q 3 _ rfl;have z4:=fun q=>zq q 4 _ rfl;have z5:=fun q=>zq q 5 _ rfl;have z4':∀q:Of (fun w'=>Below w6.heap.size w6 w'),q.w.cell? ⟨b,off+J0*6+4,none⟩=some (.slice x' L' xc') :=fun q=>by rw[hL'.out];exact z4 q
       have z0':∀q:Of (fun w'=>Below w6.heap.size w6 w'),q.w.cell? ⟨b,off+J0*6,none⟩=some (.int .i64 k') :=fun q=>z0 q;have y0:∀q:Of (fun w'=>Below w6.heap.size w6 w'),q.w.cell? ⟨wr.heap.size,0,none⟩=some (.int .i64 k) :=fun q=> (G6.out.below q.h G6.out.lt).get 0 rfl;have y1:∀q:Of (fun w'=>Below w6.heap.size w6 w'),q.w.cell? ⟨wr.heap.size,1,none⟩=some (.string p) :=fun q=> (G6.out.below q.h G6.out.lt).get 1 rfl;have y2:∀q:Of (fun w'=>Below w6.heap.size w6 w'),q.w.cell? ⟨wr.heap.size,2,none⟩=some (.int .i64 m) :=fun q=> (G6.out.below q.h G6.out.lt).get 2 rfl;have y3:∀q:Of (fun w'=>Below w6.heap.size w6 w'),q.w.cell? ⟨wr.heap.size,3,none⟩=some (.string t) :=fun q=> (G6.out.below q.h G6.out.lt).get 3 rfl;have y4:∀q:Of (fun w'=>Below w6.heap.size w6 w'),q.w.cell? ⟨wr.heap.size,4,none⟩=some (.slice x L xc) :=fun q=> (G6.out.below q.h G6.out.lt).get 4 rfl;have y5:∀q:Of (fun w'=>Below w6.heap.size w6 w'),q.w.cell? ⟨wr.heap.size,5,none⟩=some (.int .i64 c) :=fun q=> (G6.out.below q.h G6.out.lt).get 5 rfl
       have lc:∀q:Of (fun w'=>Below w6.heap.size w6 w'),(Instr.lookup 171 (.map (some g2)) (.int .i64 c) false).run Tryz.prog q.w= .ok (.int .i64 J0) q.w:=fun q=>by
        have lq:= (bE (P:=Tryz.prog) (w:=q.w) 171 3 3 UMI.out (.int .i64) UKI.out (.int .i64 0) ZI.out g2 N2 (.int .i64 c) (show IsKey (.int .i64) (.int .i64 c)from rfl) (fk (ck ys) n) (C3.out.below (ar K6.out q.h) C3.out.lt)).2;rw[show fk (ck ys) n (.int .i64 c) =some (.int .i64 J0)from by have:=LC.out;rw[E0.out.2]at this;exact this]at lq;exact lq
       have jn': (J0:Int) <n:=by have:=JN.out;omega
       clear zq z0 z4 SF hL hL' hBB c5 ODD EZ AT FY FZ HZ LC hc JN
       cases B with
       |true=>
        have T0:Hid (eR (ax ys) I0=0) :=TG.out.2.2.2 NDU.out PYES.out fun h=>by have:=OD.out.mp h;cases this
        clear FIN END OD;go_wp2_with fail;refine aq (S:=fun w'=>Below w6.heap.size w6 w') (by kernel_rfl) (by kernel_rfl) au.drew ?_;intro hne'
        repeat (go_big_quiet_step ((go_at_call 93;exact Calls.iw (SF'.out) fun w' hb q=>q.trans (hb.mono q.size))))
        refine wpQuiet_nil ?_;rintro wq ⟨q,rfl⟩;go_wp2
        go_round
        case rel=>exact⟨I0+1,by go_num,by omega,fun k hk=>by
         by_cases h:k<I0
         ·exact HP.out k h
         ·obtain rfl:k=I0:=by omega
          exact T0.out,ar K6.out q.h⟩
        case measure=>simp[intOf];omega
       |false=>
        obtain⟨q1,q2⟩:=FIN.out I0 15 I0 rfl hjn HP.out (TG.out.2.2.1 NDU.out PYES.out (OD.out.mpr rfl)).symm (by decide);subst q1 q2;clear FIN END OD;go_wp2_with fail;refine aq (S:=fun w'=>Below w6.heap.size w6 w') (by kernel_rfl) (by kernel_rfl) au.drew ?_;intro hne'
        repeat (go_big_quiet_step ((go_at_call 93;exact Calls.iw (SF'.out) fun w' hb q=>q.trans (hb.mono q.size))))
        refine wpQuiet_nil ?_;rintro wq ⟨q,rfl⟩;go_wp2;go_ret2;exact⟨rfl,BW6.out.trans (q.h.mono BW6.out.size)⟩
     ·have hi:=cE hne;clear hne;by_cases hc:c=0
      ·subst hc;have T0:Hid (eR (ax ys) I0=0) :=TG.out.2.2.2 NDU.out PYES.out fun⟨h,_⟩=>h (by rw[EY.out]);clear FIN END;go_wp2_with fail;refine aq (S:=fun w'=>Below w6.heap.size w6 w') (by kernel_rfl) (by kernel_rfl) au.drew ?_;intro hne';have c5q:∀q:Of (fun w'=>Below w6.heap.size w6 w'),q.w.cell? ⟨wr.heap.size,5,none⟩=some (.int .i64 0) :=fun q=> (G6.out.below q.h G6.out.lt).get 5 rfl;clear c5
       repeat (go_big_quiet_step (fail))
       refine wpQuiet_nil ?_;rintro wq ⟨q,rfl⟩;go_wp2
       go_round
       case rel=>exact⟨I0+1,by go_num,by omega,fun k hk=>by
        by_cases h:k<I0
        ·exact HP.out k h
        ·obtain rfl:k=I0:=by omega
         exact T0.out,ar K6.out q.h⟩
       case measure=>simp[intOf];omega
      ·have cp: (0:Int) <c:=by have:0<=c:=c00.out;omega
       obtain⟨B,hBB⟩:=named (decide (m=z.n.m/\d=z.n.d))
       have SF:Hid (∀w',Below w6.heap.size w6 w'->Calls Tryz.prog 93 #[.agg (cg k p m t x L xc c).toArray,.agg (eY z).toArray] w' fun e w''=>e= .returned (.bool B)/\Below w'.heap.size w' w'') :=fun w' hb=>by
        rw[hBB.out,hL.out];exact jP ⟨⟨k,p,m,t,d,c⟩,x,xc⟩ z w' (FY.out.below (ar K6.out hb)) (FZ.out.below (ar K6.out hb))
       have OD:Hid (wi (ax ys) (nd (ax ys) I0)↔B=false) :=by
        show _↔_;rw[ODD.out (by rw[EY.out];exact hc),EZ.out,EY.out,hBB.out,decide_eq_false_iff_not]
       have zq:∀(q:Of (fun w'=>Below w6.heap.size w6 w')),∀i v,(eY z)[i]? =some v->q.w.cell? ⟨b,off+J0*6+i,none⟩=some v:=fun q i v hv=> (AT.out.below (ar K6.out q.h) HBND.out) J0 z HZ.out i v hv;obtain⟨⟨k',p',m',t',d',c'⟩,x',xc'⟩:=z;obtain⟨L',hL'⟩:=named d'.length;have SF':Hid (∀w',Below w6.heap.size w6 w'->Calls Tryz.prog 93 #[.agg (cg k p m t x L xc c).toArray,.agg (cg k' p' m' t' x' L' xc' c').toArray] w' fun e w''=>e= .returned (.bool B)/\Below w'.heap.size w' w'') :=by rw[hL'.out];exact SF.out
       have z0:=fun q=>zq q 0 _ rfl;have z1:=fun q=>zq q 1 _ rfl;have z2:=fun q=>zq q 2 _ rfl;have z3:=fun q=>zq q 3 _ rfl;have z4:=fun q=>zq q 4 _ rfl;have z5:=fun q=>zq q 5 _ rfl;have z4':∀q:Of (fun w'=>Below w6.heap.size w6 w'),q.w.cell? ⟨b,off+J0*6+4,none⟩=some (.slice x' L' xc') :=fun q=>by rw[hL'.out];exact z4 q
       have z0':∀q:Of (fun w'=>Below w6.heap.size w6 w'),q.w.cell? ⟨b,off+J0*6,none⟩=some (.int .i64 k') :=fun q=>z0 q;have y0:∀q:Of (fun w'=>Below w6.heap.size w6 w'),q.w.cell? ⟨wr.heap.size,0,none⟩=some (.int .i64 k) :=fun q=> (G6.out.below q.h G6.out.lt).get 0 rfl;have y1:∀q:Of (fun w'=>Below w6.heap.size w6 w'),q.w.cell? ⟨wr.heap.size,1,none⟩=some (.string p) :=fun q=> (G6.out.below q.h G6.out.lt).get 1 rfl;have y2:∀q:Of (fun w'=>Below w6.heap.size w6 w'),q.w.cell? ⟨wr.heap.size,2,none⟩=some (.int .i64 m) :=fun q=> (G6.out.below q.h G6.out.lt).get 2 rfl;have y3:∀q:Of (fun w'=>Below w6.heap.size w6 w'),q.w.cell? ⟨wr.heap.size,3,none⟩=some (.string t) :=fun q=> (G6.out.below q.h G6.out.lt).get 3 rfl;have y4:∀q:Of (fun w'=>Below w6.heap.size w6 w'),q.w.cell? ⟨wr.heap.size,4,none⟩=some (.slice x L xc) :=fun q=> (G6.out.below q.h G6.out.lt).get 4 rfl;have y5:∀q:Of (fun w'=>Below w6.heap.size w6 w'),q.w.cell? ⟨wr.heap.size,5,none⟩=some (.int .i64 c) :=fun q=> (G6.out.below q.h G6.out.lt).get 5 rfl
       have lc:∀q:Of (fun w'=>Below w6.heap.size w6 w'),(Instr.lookup 171 (.map (some g2)) (.int .i64 c) false).run Tryz.prog q.w= .ok (.int .i64 J0) q.w:=fun q=>by
        have lq:= (bE (P:=Tryz.prog) (w:=q.w) 171 3 3 UMI.out (.int .i64) UKI.out (.int .i64 0) ZI.out g2 N2 (.int .i64 c) (show IsKey (.int .i64) (.int .i64 c)from rfl) (fk (ck ys) n) (C3.out.below (ar K6.out q.h) C3.out.lt)).2;rw[show fk (ck ys) n (.int .i64 c) =some (.int .i64 J0)from by have:=LC.out;rw[E0.out.2]at this;exact this]at lq;exact lq
       have jn': (J0:Int) <n:=by have:=JN.out;omega
       clear zq z0 z4 SF hL hL' hBB c5 ODD EZ AT FY FZ HZ LC hc JN
       cases B with
       |true=>
        have T0:Hid (eR (ax ys) I0=0) :=TG.out.2.2.2 NDU.out PYES.out fun h=>by have:=OD.out.mp h;cases this
        clear FIN END OD;go_wp2_with fail;refine aq (S:=fun w'=>Below w6.heap.size w6 w') (by kernel_rfl) (by kernel_rfl) au.drew ?_;intro hne'
        repeat (go_big_quiet_step ((go_at_call 93;exact Calls.iw (SF'.out) fun w' hb q=>q.trans (hb.mono q.size))))
        refine wpQuiet_nil ?_;rintro wq ⟨q,rfl⟩;go_wp2
        go_round
        case rel=>exact⟨I0+1,by go_num,by omega,fun k hk=>by
         by_cases h:k<I0
         ·exact HP.out k h
         ·obtain rfl:k=I0:=by omega
          exact T0.out,ar K6.out q.h⟩
        case measure=>simp[intOf];omega
       |false=>
        obtain⟨q1,q2⟩:=FIN.out I0 15 I0 rfl hjn HP.out (TG.out.2.2.1 NDU.out PYES.out (OD.out.mpr rfl)).symm (by decide);subst q1 q2;clear FIN END OD;go_wp2_with fail;refine aq (S:=fun w'=>Below w6.heap.size w6 w') (by kernel_rfl) (by kernel_rfl) au.drew ?_;intro hne'
        repeat (go_big_quiet_step ((go_at_call 93;exact Calls.iw (SF'.out) fun w' hb q=>q.trans (hb.mono q.size))))
        refine wpQuiet_nil ?_;rintro wq ⟨q,rfl⟩;go_wp2;go_ret2;exact⟨rfl,BW6.out.trans (q.h.mono BW6.out.size)⟩
    ·have PNO:Hid (¬qv (ax ys) (nd (ax ys) I0)) :=fun h=>by
      rcases PAR'.out.mp h with h|h
      ·exact hne h
      ·have:=HPB.out.mpr h;cases this
     have hi:=cE hne;obtain⟨q1,q2⟩:=FIN.out I0 13 I0 rfl hjn HP.out (TG.out.2.1 NDU.out PNO.out).symm (by decide);subst q1 q2;clear PAR' HPB ways hne FIN END;go_wp2_with fail;go_ret2;exact⟨rfl,BW6.out⟩
   ·have hd: ((I0:Int) != (j:Int)) =true:=by simp;omega
    obtain⟨q1,q2⟩:=FIN.out j 14 j rfl hjn HP.out (TG.out.1 (DUP.out.mp hD)).symm (by decide);subst q1 q2;clear FIN END hD;go_wp2_with fail;go_ret2;exact⟨rfl,BW6.out⟩
  ·obtain rfl:j=n:=by omega
   obtain⟨q1,q2⟩:=END.out HP.out;subst q1 q2;clear FIN END;go_wp2;go_ret2;exact⟨rfl,BW.out⟩
end Tre
namespace Tre
open Go.RowKit Go.Proofs.YtcjagakckffkiaaGreatDoor.Fit
theorem xW {k:Int}{p:ByteArray}{m:Int}{t:ByteArray}{d:List Int}{c E R:Int}(hR:R=cI ⟨k,p,m,t,d,c⟩)(h1:0<=k)(h2:k<=2)(hE:E=dn ⟨k,p,m,t,if k=1 then(d.length:Int)else 0⟩) :
 R=if E≠0 then E else if k≠1/\0<d.length then 2 else if c<0\/ (k≠1/\c≠0)then 15 else 0:=by
 rw[hR,hE];unfold cI gj;dsimp only;rw[if_neg (by omega)]
 congr 2
 have e:d≠ []↔0<d.length:=List.length_pos_iff.symm;rw[e]
theorem yv (k:Int)(p:ByteArray)(m:Int)(t:ByteArray)(a:Option Addr)(d:List Int)(cap:Nat)(c:Int)(w:World)(V:dS w)(hp:p.size<=maxLen)(ht:t.size<=maxLen) :
 Calls Tryz.prog 52 #[.agg (cg k p m t a d.length cap c).toArray] w fun e w'=>e= .returned (.int .i64 (cI ⟨k,p,m,t,d,c⟩))/\Below w.heap.size w w':=by
 have EZ:=aa ER;have EO:=aa CS;have S8:=aa Bw;obtain⟨R,hR⟩:=named (cI ⟨k,p,m,t,d,c⟩);obtain⟨E,hE⟩:=named (dn ⟨k,p,m,t,if k=1 then(d.length:Int)else 0⟩)
 have HC:Hid (∀(s:Int) w',s= (if k=1 then(d.length:Int)else 0)->Below w.heap.size w w'->Calls Tryz.prog 86 #[.agg (cB k p m t s).toArray] w' fun e w''=>e= .returned (.int .i64 E)/\Below w'.heap.size w' w'') :=fun s w' hs hb=>by
  rw[hE.out,<- hs];exact ni k p m t s w' (V.go hb) hp ht
 have HR:Hid (0<=k->k<=2->R=if E≠0 then E else if k≠1/\0<d.length then 2 else if c<0\/ (k≠1/\c≠0)then 15 else 0) :=fun h1 h2=>xW hR.out h1 h2 hE.out;have HB:Hid (¬(0<=k/\k<=2)->R=8) :=fun h=>by rw[hR.out];unfold cI;dsimp only;rw[if_pos (by omega)]
 obtain⟨N,hN⟩:=named d.length;rw[<- hR.out];rw[<- hN.out]at HC HR⊢;clear hR hE hN V hp ht;by_cases hk:0<=k/\k<=2
 ·have HR':=aa (HR.out hk.1 hk.2);clear HR HB;by_cases k1:k=1
  ·subst k1;have HC':=aa fun(w':World) =>HC.out N w' (by rw[if_pos rfl])
   have HQ:Hid (R=if E≠0 then E else if c<0 then 15 else 0) :=by
    show _=_;rw[HR'.out,if_neg (c:= (1:Int)≠1/\_) (by omega)];by_cases z:c<0
    ·rw[if_pos (c:=c<0\/_) (.inl z),if_pos z]
    ·rw[if_neg (c:=c<0\/_) (by omega),if_neg z]
   clear HC HR' hk;go_enter Tryz.func52,Tryz.ntmps52;go_wp2_with (first| (refine af rfl 77 _ rfl (cg 1 p m t a N cap c) rfl ?_;intro w1 g1 b1;have G1:=aa g1;have B1:=aa b1;have c0:=g1.get 0 rfl;have c1:=g1.get 1 rfl;have c2:=g1.get 2 rfl;have c3:=g1.get 3 rfl;clear g1 b1) | (refine ag rfl 68 rfl (cB 0 emp 0 emp 0) EZ.out ?_;intro w2 g2 b2;have G2:=aa g2;have N1:=aa G1.out.lt;have K1:=aa (G1.out.below b2 G1.out.lt);have B2:=aa (ar B1.out b2);clear g2 b2 c0 c1 c2 c3) | (refine ae rfl 68 _ _ rfl w1.heap.size rfl (cB 1 p m t 0) (cB 0 emp 0 emp 0) rfl 68 G2.out EO.out.2 rfl (fR _ _ _ _ _) ?_;intro w3 g3 t3;have G3:=aa g3;have K3:=aa (K1.out.bH t3 (Nat.ne_of_lt N1.out));have B3:=aa (B2.out.trans (t3.below B1.out.size));have c0:=K3.out.get 0 rfl;have c4:=K3.out.get 4 rfl;clear g3 t3) | (refine al rfl 2 _ _ rfl w1.heap.size 4 rfl (.int .i64 N) rfl rfl S8.out 68 _ G3.out (by simp) ?_;intro w4 g4 t4;have G4:=aa (show an w4 w1.heap.size 68 (cB 1 p m t N)from g4);have K4:=aa (K3.out.aK t4 (Nat.ne_of_lt N1.out));have B4:=aa (B3.out.trans (t4.below B1.out.size));have d0:=g4.get 0 rfl;have d1:=g4.get 1 rfl;have d2:=g4.get 2 rfl;have d3:=g4.get 3 rfl;have d4:=g4.get 4 rfl;clear g4 t4 c0 c4));refine(HC'.out w4 B4.out).mono ?_;rintro e w5 ⟨rfl,b5⟩;have K5:=aa (K4.out.below b5 K4.out.lt);have B5:=aa (ar B4.out b5);have c0:=K5.out.get 0 rfl;have c5:=K5.out.get 5 rfl;clear b5 d0 d1 d2 d3 d4 HC';by_cases z:E=0
   ·subst z;by_cases zc:c<0
    ·have e:=HQ.out;rw[if_neg (by simp),if_pos zc]at e;subst e;clear HQ;go_wp2_with fail;go_ret;exact⟨rfl,B5.out⟩
    ·have e:=HQ.out;rw[if_neg (by simp),if_neg zc]at e;subst e;clear HQ;go_wp2_with fail;go_ret;exact⟨rfl,B5.out⟩
   ·have e:=HQ.out;rw[if_pos z]at e;subst e;have nz: (R !=0) =true:=by simpa using z
    clear HQ z;go_wp2_with fail;go_ret;exact⟨rfl,B5.out⟩
  ·have HC':=aa fun(w':World) =>HC.out 0 w' (by rw[if_neg k1]);have n1: (k==1) =false:=by simpa using k1
   have n2: (k !=1) =true:=by simpa using k1
   have HQ:Hid (R=if E≠0 then E else if 0<N then 2 else if c=0 then 0 else 15) :=by
    show _=_;rw[HR'.out];by_cases z:0<N
    ·rw[if_pos (c:=k≠1/\_) ⟨k1,z⟩,if_pos z]
    ·rw[if_neg (c:=k≠1/\_) (fun h=>z h.2),if_neg z];by_cases z:c=0
     ·rw[if_neg (c:=c<0\/_) (by omega),if_pos z]
     ·rw[if_pos (c:=c<0\/_) (.inr ⟨k1,z⟩),if_neg z]
   have kk:k=0\/k=2:=by omega
   clear HC HR' hk k1;rcases kk with rfl|rfl
   all_goals
    go_enter Tryz.func52,Tryz.ntmps52;go_wp2_with (first| (refine af rfl 77 _ rfl (cg _ p m t a N cap c) rfl ?_;intro w1 g1 b1;have G1:=aa g1;have B1:=aa b1;have c0:=g1.get 0 rfl;have c1:=g1.get 1 rfl;have c2:=g1.get 2 rfl;have c3:=g1.get 3 rfl;clear g1 b1) | (refine ag rfl 68 rfl (cB 0 emp 0 emp 0) EZ.out ?_;intro w2 g2 b2;have G2:=aa g2;have N1:=aa G1.out.lt;have K1:=aa (G1.out.below b2 G1.out.lt);have B2:=aa (ar B1.out b2);clear g2 b2 c0 c1 c2 c3) | (refine ae rfl 68 _ _ rfl w1.heap.size rfl (cB _ p m t 0) (cB 0 emp 0 emp 0) rfl 68 G2.out EO.out.2 rfl (fR _ _ _ _ _) ?_;intro w3 g3 t3;have G3:=aa g3;have K3:=aa (K1.out.bH t3 (Nat.ne_of_lt N1.out));have B3:=aa (B2.out.trans (t3.below B1.out.size));have c0:=K3.out.get 0 rfl;have c4:=K3.out.get 4 rfl;have d0:=g3.get 0 rfl;have d1:=g3.get 1 rfl;have d2:=g3.get 2 rfl;have d3:=g3.get 3 rfl;have d4:=g3.get 4 rfl;clear g3 t3));refine(HC'.out w3 B3.out).mono ?_;rintro e w5 ⟨rfl,b5⟩;have K5:=aa (K3.out.below b5 K3.out.lt);have B5:=aa (ar B3.out b5);have c0:=K5.out.get 0 rfl;have c4:=K5.out.get 4 rfl;have c5:=K5.out.get 5 rfl;clear b5 d0 d1 d2 d3 d4 HC';by_cases z:E=0
    ·subst z;by_cases zn:0<N
     ·have e:=HQ.out;rw[if_neg (by simp),if_pos zn]at e;subst e;have zi: (0:Int) <N:=by omega
      clear HQ zn;go_wp2_with fail;go_ret;exact⟨rfl,B5.out⟩
     ·have zi:¬(0:Int) <N:=by omega
      by_cases zc:c=0
      ·have e:=HQ.out;rw[if_neg (by simp),if_neg zn,if_pos zc]at e;subst e;subst zc;clear HQ zn;go_wp2_with fail;go_ret;exact⟨rfl,B5.out⟩
      ·have e:=HQ.out;rw[if_neg (by simp),if_neg zn,if_neg zc]at e;subst e;have nz: (c !=0) =true:=by simpa using zc
       clear HQ zn;by_cases zl:c<0
       ·clear nz zc;go_wp2_with fail;go_ret;exact⟨rfl,B5.out⟩
       ·clear zc;go_wp2_with fail;go_ret;exact⟨rfl,B5.out⟩
    ·have e:=HQ.out;rw[if_pos z]at e;subst e;have nz: (R !=0) =true:=by simpa using z
     clear HQ z;go_wp2_with fail;go_ret;exact⟨rfl,B5.out⟩
 ·have e:=HB.out hk;subst e
  have k0: (k==0) =false:=by have:k≠0:=by omega
                             simpa using this
  have k2: (k==2) =false:=by have:k≠2:=by omega
                             simpa using this
  have k1: (k==1) =false:=by have:k≠1:=by omega
                             simpa using this
  clear HR HB HC hk;go_enter Tryz.func52,Tryz.ntmps52;go_wp2_with (first| (refine af rfl 77 _ rfl (cg k p m t a N cap c) rfl ?_;intro w1 g1 b1;have G1:=aa g1;have B1:=aa b1;have c0:=g1.get 0 rfl;have c1:=g1.get 1 rfl;have c2:=g1.get 2 rfl;have c3:=g1.get 3 rfl;clear g1 b1) | (refine ag rfl 68 rfl (cB 0 emp 0 emp 0) EZ.out ?_;intro w2 g2 b2;have G2:=aa g2;have N1:=aa G1.out.lt;have K1:=aa (G1.out.below b2 G1.out.lt);have B2:=aa (ar B1.out b2);clear g2 b2 c0 c1 c2 c3) | (refine ae rfl 68 _ _ rfl w1.heap.size rfl (cB k p m t 0) (cB 0 emp 0 emp 0) rfl 68 G2.out EO.out.2 rfl (fR _ _ _ _ _) ?_;intro w3 g3 t3;have B3:=aa (B2.out.trans (t3.below B1.out.size));have c0:= (K1.out.bH t3 (Nat.ne_of_lt N1.out)).get 0 rfl;clear g3 t3));go_ret;exact⟨rfl,B3.out⟩
end Tre
end Go.Proofs.YtcjagakckffkiaaGreatDoor
