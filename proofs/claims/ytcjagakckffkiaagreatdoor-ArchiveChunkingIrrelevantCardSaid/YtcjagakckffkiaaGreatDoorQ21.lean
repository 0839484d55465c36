import Derived.Test.YtcjagakckffkiaaGreatDoorRows
import Derived.Test.YtcjagakckffkiaaGreatDoorQ4
import Derived.Test.YtcjagakckffkiaaGreatDoorQ20
import Derived.Test.YtcjagakckffkiaaGreatDoorQ1
import Derived.Test.YtcjagakckffkiaaGreatDoorQ16
import Derived.Test.YtcjagakckffkiaaGreatDoorQ9
import Derived.Deep.RegionHeld3
import Derived.Test.YtcjagakckffkiaaGreatDoorQ19
set_option maxHeartbeats 16000000
namespace Go.Proofs.YtcjagakckffkiaaGreatDoor.jC
open Go.RowKit
open Oct
theorem zf:jR Tryz.prog 236 5 512:=⟨Tryz.underlying236,by kernel_rfl,Tryz.underlying5,Tryz.xH⟩
theorem Ic (zs:List Int)(w:World)(hl:zs.length=512)(hb:Bytes zs) :
 Calls Tryz.prog 203 #[.agg (arr zs)] w fun e w'=>e= .returned (.int .i64 (oo zs))/\Below w.heap.size w w':=by
 have HL:=ad hl;clear hl;have HB:=ad hb;clear hb;have HT:=ad zf;go_enter Tryz.func203,Tryz.ntmps203;go_wp2_with (first| (refine ky rfl 236 _ rfl zs rfl HB.out ?_;intro w1 h1 b1;have H1:=ad h1;clear h1) | (refine gv rfl _ _ 25 9 rfl 5 Tryz.underlying25 HT.out.elem w.heap.size 148 364 364 rfl _ rfl 236 zs H1.out (by decide) (by rw[HL.out];decide) ?_;intro w2 h2 t2;have H2:=ad h2;have T2:=ad t2;clear h2 t2) | (refine dG rfl 236 5 512 HT.out _ rfl w.heap.size 0 rfl (fj zs) H2.out.row (jv HL.out) ?_));have hbl:=vW HB.out;have BD:=ad (wO hbl);have HN:=ad (jv HL.out);have B2:=ad ((b1).trans (T2.out.below ah));have HZ:=ad hbl;clear hbl b1;go_loop [3,9] (fun n i=>∃j:Nat,j<=512/\i= .int .i64 j/\n= .int .i64 ((fj zs).take j).sum) (fun _ i=>512- (intOf i).toNat)
 case atStart=>exact⟨0,Nat.zero_le _,rfl,rfl⟩
 case round=>
  obtain⟨j,hj,rfl,rfl⟩:=hrel;obtain⟨d0,d1⟩:=BD.out j;by_cases hlt:j<512
  ·have hix:=sv (w:=w2) HT.out (fj zs) HN.out j hlt;obtain⟨c,hc⟩:=named ((fj zs).getD j 0);have hcb:=HZ.out.getD j;rw[<- hc.out]at hix hcb;obtain⟨c0,c1⟩:=hcb;obtain⟨S,hS⟩:=named ((fj zs).take j).sum;rw[<- hS.out]at d0 d1⊢
   have HS:Hid (((fj zs).take (j+1)).sum=S+c) :=by
    show _=_;rw[sB (by rw[HN.out];exact hlt),hS.out,hc.out]
   have hlt': (j:Int) <512:=by omega
   go_wp2
   go_round
   case rel=>exact⟨j+1,by omega,by go_num,by rw[HS.out]⟩
   case measure=>simp[intOf];omega
  ·obtain rfl:j=512:=by omega
   go_wp2;go_ret;exact⟨JG (by rw[List.take_of_length_le (by rw[HN.out];exact ah)];rfl),B2.out⟩
theorem ow (zs:List Int)(w:World)(hl:zs.length=512)(hb:Bytes zs) :
 Calls Tryz.prog 153 #[.agg (arr zs)] w fun e w'=>e= .returned (.agg (arr (cu zs)))/\Below w.heap.size w w':=by
 have HL:=ad hl;clear hl;have HB:=ad hb;clear hb;have HT:=ad zf;go_enter Tryz.func153,Tryz.ntmps153;go_wp2_with (first| (refine ky rfl 236 _ rfl zs rfl HB.out ?_;intro w1 h1 b1;have H1:=ad h1;clear h1;have B1:=ad b1;clear b1) | (refine cI rfl 236 5 512 HT.out rfl ?_;intro w2 h2 b2;have H2:=ad h2;have B2:=ad b2;clear h2 b2) | (refine dG rfl 236 5 512 HT.out _ rfl w.heap.size 0 rfl zs (H1.out.below B2.out H1.out.lt).row HL.out ?_));refine(Ic zs _ HL.out HB.out).mono ?_;rintro e w3 ⟨rfl,b3⟩;have B3:=ad b3;clear b3;obtain⟨n,hn⟩:=named (oo zs);have FN:Hid (0<=n/\n<=mx 6) :=by show _/\_;rw[hn.out];exact BP HB.out HL.out
 rw[<- hn.out];go_wp2_with fail;refine(yx n 7 6 _ (by decide) (by decide) (by decide) FN.out.1 FN.out.2).mono ?_;rintro e w4 ⟨rfl,h4,b4⟩;have H4:=ad h4;clear h4;have B4:=ad b4;clear b4;have G01:Hid (w.heap.size<w1.heap.size) :=H1.out.lt;have G12:Hid (w1.heap.size<w2.heap.size) :=H2.out.lt;have G23:=ad B3.out.size;have G34:Hid (w3.heap.size<w4.heap.size) := (lU H4.out).2;have A0:Hid (bP w4 w.heap.size 236 zs) := ((H1.out.below B2.out G01.out).below B3.out (Nat.lt_trans G01.out G12.out)).below B4.out (Nat.lt_of_lt_of_le (Nat.lt_trans G01.out G12.out) G23.out);have A1:Hid (bP w4 w1.heap.size 236 (ao 512)) := (H2.out.below B3.out G12.out).below B4.out (Nat.lt_of_lt_of_le G12.out G23.out);have D4:Hid (aT w4 w3.heap.size 0 (eK 6 n)) :=aT.bJ H4.out (vH 6 n);have N1:Hid (w1.heap.size≠w.heap.size) :=by have:=G01.out;show _≠_;omega
 have N2:Hid (w3.heap.size≠w.heap.size) :=by have:=G01.out;have:=G12.out;have:=G23.out;show _≠_;omega
 go_wp2_with (first| (refine gv rfl _ _ 25 9 rfl 5 Tryz.underlying25 HT.out.elem w.heap.size 148 364 364 rfl _ rfl 236 zs A0.out (by decide) (by rw[HL.out];decide) ?_;intro w5 h5 t5;have H5:=ad h5;have T5:=ad t5;clear h5 t5) | (refine jG rfl _ _ 25 25 rfl 5 Tryz.underlying25 HT.out.elem w.heap.size 148 364 364 rfl (some ⟨w3.heap.size,0,none⟩) 7 7 rfl (eK 6 n) (.dS (D4.out.aD T5.out N2.out) (by rw[T5.out.size];exact G34.out)) (bW _ _) 236 (fj zs) H5.out (by rw[jv HL.out];decide) ?_;intro w6 h6 t6;have H6:=ad h6;have T6:=ad t6;clear h6 t6) | (refine dG rfl 236 5 512 HT.out _ rfl w.heap.size 0 rfl (cu zs) (by have:=H6.out;rw[hn.out,List.take_of_length_le (by rw[bW];decide),Hm zs HL.out]at this;exact this.row) (ee HL.out) ?_) | (refine cB rfl 236 5 512 HT.out _ _ rfl w1.heap.size rfl (cu zs) rfl (lS HB.out) (ee HL.out) 236 (ao 512) ((A1.out.aD T5.out N1.out).aD T6.out N1.out) (al _) ?_;intro w7 h7 t7;have H7:=ad h7;have T7:=ad t7;clear h7 t7));have L0:=Nat.le_of_lt G01.out;have L1:=Nat.le_of_lt G12.out
 exact bodyPost_ret (wW Tryz.results153 HT.out _ w1.heap.size rfl _ (cu zs) H7.out (ee HL.out)) rfl ⟨rfl,
  B1.out.trans ((B2.out.mono L0).trans ((B3.out.mono (Nat.le_trans L0 L1)).trans ((B4.out.mono (Nat.le_trans (Nat.le_trans L0 L1) G23.out)).trans ((T5.out.below ah).trans ((T6.out.below ah).trans (T7.out.below L0))))))⟩
theorem Ak (a:Option Addr)(cap:Nat)(zs:List Int)(w:World)(hl:zs.length=512)(hb:BytesIn w a zs) :
 Calls Tryz.prog 152 #[.slice a 512 cap] w fun e w'=>e= .returned (.tuple #[.agg (arr zs),.int .i64 0])/\Below w.heap.size w w':=by
 obtain⟨b,off,rfl,hlt,hr⟩:∃b off,a=some ⟨b,off,none⟩/\b<w.heap.size/\aT w b off zs:=by
  rcases hb with hb|hb
  ·rw[hb]at hl;cases hl
  ·exact hb
 have HL:=ad hl;clear hl hb;have HR:=ad hr;clear hr;have HLT:=ad hlt;clear hlt;have HT:=ad zf;have ha:=fun w=>run_arrayAt (w:=w) HT.out (some ⟨b,off,none⟩) 512 cap ah;go_enter Tryz.func152,Tryz.ntmps152;go_wp2_with (first| (refine cI rfl 236 5 512 HT.out rfl ?_;intro w1 h1 b1;have H1:=ad h1;have B1:=ad b1;clear h1 b1) | (refine dG rfl 236 5 512 HT.out _ rfl b off rfl zs (HR.out.below B1.out HLT.out) HL.out ?_) | (refine cB rfl 236 5 512 HT.out _ _ rfl w.heap.size rfl zs rfl HR.out.2 HL.out 236 (ao 512) H1.out (al _) ?_;intro w2 h2 t2;have H2:=ad h2;have T2:=ad t2;clear h2 t2));exact bodyPost_ret (jE Tryz.results152 HT.out _ w.heap.size rfl _ zs H2.out HL.out) rfl ⟨rfl,B1.out.trans (T2.out.below ah)⟩
theorem Dz (a:Option Addr)(len cap:Nat)(w:World)(hl:¬len=512) :
 Calls Tryz.prog 152 #[.slice a len cap] w fun e w'=>e= .returned (.tuple #[.agg (arr (ao 512)),.int .i64 2])/\Below w.heap.size w w':=by
 have h2: ((len:Int) ==512) =false:=by simp;omega
 have h3: ((len:Int) !=512) =true:=by simp;omega
 have HT:=ad zf;go_enter Tryz.func152,Tryz.ntmps152;go_wp2_with (first| (refine cI rfl 236 5 512 HT.out rfl ?_;intro w1 h1 b1;have H1:=ad h1;have B1:=ad b1;clear h1 b1) | (refine oq rfl 236 5 512 HT.out rfl ?_) | (refine cB rfl 236 5 512 HT.out _ _ rfl w.heap.size rfl (ao 512) rfl (cZ _) (al _) 236 (ao 512) H1.out (al _) ?_;intro w2 h2 t2;have H2:=ad h2;have T2:=ad t2;clear h2 t2));exact bodyPost_ret (jE Tryz.results152 HT.out _ w.heap.size rfl _ (ao 512) H2.out (al _)) rfl ⟨rfl,B1.out.trans (T2.out.below ah)⟩
end Go.Proofs.YtcjagakckffkiaaGreatDoor.jC
namespace Go.Proofs.YtcjagakckffkiaaGreatDoor.jC
open Go.RowKit
open Oct
theorem Kh (a:Option Addr)(cap:Nat)(zs:List Int)(w:World)(hl:zs.length=512)(hb:BytesIn w a zs)(hz:Bytes zs) :
 Calls Tryz.prog 149 #[.slice a 512 cap] w (fun e w'=>∃b:Nat,e= .returned (.tuple #[.slice (some ⟨b,0,none⟩) 512 512,.int .i64 0])/\bP w' b 236 (cu zs)/\w.heap.size<=b/\Below w.heap.size w w') :=by
 have HL:=ad hl;clear hl;have HB:=ad hb;clear hb;have HZ:=ad hz;clear hz;have HT:=ad zf;go_enter Tryz.func149,Tryz.ntmps149;go_wp2_with fail;refine(Ak a cap zs _ HL.out HB.out).mono ?_;rintro e w1 ⟨rfl,b1⟩;have B1:=ad b1;clear b1;go_wp2_with (first| (refine cI rfl 236 5 512 HT.out rfl ?_;intro w2 h2 b2;have H2:=ad h2;have B2:=ad b2;clear h2 b2) | (refine dG rfl 236 5 512 HT.out _ rfl w1.heap.size 0 rfl zs H3.out.row HL.out ?_) | (refine cB rfl 236 5 512 HT.out _ _ rfl w1.heap.size rfl zs rfl HZ.out HL.out 236 (ao 512) H2.out (al _) ?_;intro w3 h3 t3;have H3:=ad h3;have T3:=ad t3;clear h3 t3));refine(ow zs _ HL.out HZ.out).mono ?_;rintro e w4 ⟨rfl,b4⟩;have B4:=ad b4;clear b4
 have B:Hid (Below w.heap.size w w4) :=by
  have B14:Below w1.heap.size w1 w3:=B2.out.trans (T3.out.below ah);exact B1.out.trans ((B14.mono B1.out.size).trans (B4.out.mono (Nat.le_trans B1.out.size B14.size)))
 have H4:Hid (bP w4 w1.heap.size 236 zs) :=H3.out.below B4.out H3.out.lt;go_wp2_with (refine cB rfl 236 5 512 HT.out _ _ rfl w1.heap.size rfl (cu zs) rfl (lS HZ.out) (ee HL.out) 236 zs H4.out HL.out ?_;intro w5 h5 t5;have H5:=ad h5;have T5:=ad t5;clear h5 t5);go_ret2;exact⟨_,rfl,H5.out,B1.out.size,B.out.trans (T5.out.below B1.out.size)⟩
end Go.Proofs.YtcjagakckffkiaaGreatDoor.jC
namespace Go.Proofs.YtcjagakckffkiaaGreatDoor.Ust
open Go.RowKit
open Oct Cst jC
set_option maxRecDepth 100000 in
theorem vP (V C:Nat->List Int)(v0 v1 v2 v3 v4 v5:Value)(w:World)(h0:C 0=ao 512)(h1:∀j,j<13->C (j+1) =lay (C j) (yb j) (V j))(hC:∀j,j<=13-> (C j).length=512)(hV:∀j,j<13-> (V j).length=wC j)
 (hk:∀w,Calls Tryz.prog 148 #[.agg #[v0,v1,v2,v3,v4,v5]] w fun e w'=>e= .returned (.int .i64 0)/\Below w.heap.size w w')
 (hf:∀j,j<13->∀w,Calls Tryz.prog (uT j) #[.agg #[v0,v1,v2,v3,v4,v5],.int .i64 (wC j:Int)] w (gA (V j) (wC j) w)) :
 Calls Tryz.prog 100 #[.agg #[v0,v1,v2,v3,v4,v5]] w fun e w'=>∃b:Nat,e= .returned (.tuple #[.slice (some ⟨b,0,none⟩) 512 512,.int .i64 0])/\bP w' b 236 (cu (C 13))/\w.heap.size<=b/\Below w.heap.size w w':=by
 have C0:=ad h0;have C1:=ad h1;have CL:=ad hC;have VL:=ad hV;have HK:=ad hk;have HF:=ad hf;clear h0 h1 hC hV hk hf;go_enter Tryz.func100,Tryz.ntmps100;go_wp2_with (first| (refine aj rfl 130 _ rfl [v0,v1,v2,v3,v4,v5] rfl ?_;intro w1 g1 b1;have H1:=ad g1;have B1:=ad b1;have c0:=g1.get 0 rfl;have c1:=g1.get 1 rfl;have c2:=g1.get 2 rfl;have c3:=g1.get 3 rfl;have c4:=g1.get 4 rfl;have c5:=g1.get 5 rfl;clear g1 b1));refine(HK.out _).mono ?_;rintro e w2 ⟨rfl,b2⟩;have H2:=ad (H1.out.below b2 H1.out.lt);have B2:=ad (ar B1.out b2);clear b2 c0 c1 c2 c3 c4 c5 H1 B1;have L2:=ad H2.out.lt;obtain⟨i0,HJ⟩:=fO (P:=Tryz.prog) (e:=5) (by kernel_rfl);go_wp2_with (first| (refine dE rfl _ _ 25 5 rfl Tryz.underlying25 i0 HJ 512 rfl rfl (by decide) ?_;intro w3 h3 b3;have A3:=ad h3;have B3:=ad b3;clear h3 b3));refine(qF _).mono ?_;rintro e w4 ⟨rfl,h4,b4⟩;have H4:=ad h4;have B4:=ad b4;clear h4 b4;have O4:=ad ((H2.out.below B3.out H2.out.lt).below B4.out (Nat.lt_of_lt_of_le L2.out B3.out.size));have A4:=ad (A3.out.below B4.out A3.out.lt);have BB:=ad (ar (ar B2.out B3.out) B4.out);have L3:=ad A3.out.lt;have L4:=ad H4.out.lt;clear HJ;obtain⟨hb,hhb⟩:=named w.heap.size;obtain⟨ab,hab⟩:=named w2.heap.size;obtain⟨tb,htb⟩:=named w3.heap.size;rw[<- hhb.out]at O4 L2;rw[<- hab.out]at A4 L3 L2;rw[<- htb.out]at H4 L3 L4;have LW:Hid (w.heap.size<=ab) :=by have h:=hab.out;show _<=_;rw[h];exact B2.out.size
 rw[<- hab.out,<- htb.out,<- hhb.out];go_wp2_with fail;go_loopw [16] (fun i wr=>∃j:Nat,j<=13/\i= .int .i64 j/\bP wr ab 5 (C j)/\ak wr tb 192 Ct/\ak wr hb 130 [v0,v1,v2,v3,v4,v5]/\Below w.heap.size w wr) (fun i _=>13- (intOf i).toNat)
 case atStart=>exact⟨0,Nat.zero_le _,rfl,by rw[C0.out];exact A4.out,H4.out,O4.out,BB.out⟩
 case round=>
  obtain⟨j,hj,rfl,ha,ht,ho,hbb⟩:=hrel;have A:=ad ha;have T:=ad ht;have O:=ad ho;have B:=ad hbb;clear ha ht ho hbb;by_cases hlt:j<13
  ·have hlt': (j:Int) <13:=by omega
   have hrow:=Ac hlt;obtain⟨off,hoff⟩:=named (yb j);obtain⟨wd,hwd⟩:=named (wC j);obtain⟨f,hfn⟩:=named (uT j);obtain⟨p,hpn⟩:=named (ug j);have HFj:=ad (HF.out j hlt);have VLj:=ad (VL.out j hlt);have FIT:=ad (pW hlt);have CN:=ad (C1.out j hlt);rw[<- hoff.out,<- hwd.out,<- hfn.out,<- hpn.out]at hrow;have FE:Hid (∀args w,(callFunc (uT j) args).run Tryz.prog w= .ok (.enter (uT j) args) w) :=fun args w=>BV hlt args w;rw[<- hfn.out]at FE;rw[<- hwd.out,<- hfn.out]at HFj;rw[<- hwd.out]at VLj;rw[<- hoff.out]at CN;rw[<- hoff.out,<- hwd.out]at FIT;have RW:Hid (∀i u,(xV off wd f p)[i]? =some u->wr.cell? ⟨tb,j*4+i,none⟩=some u) :=fun i u hu=>T.out.get _ (hrow i u hu);clear hrow hoff hwd hfn hpn;have HZ:Hid ((Tryz.prog.info? 192).map (·.zero) =some (some (.agg ([.int .i64 0,.int .i64 0,.nilFunc,.nilFunc] :List Value).toArray))) :=by show _=_;kernel_rfl
   have HT:Hid (ij Tryz.prog 192 4) :=⟨⟨_,Tryz.underlying192⟩,by kernel_rfl⟩;go_wp2_with (first| (refine cz rfl 192 4 HT.out _ rfl tb (j*4) rfl (xV off wd f p) rfl RW.out ?_) | (refine ag rfl 192 rfl [.int .i64 0,.int .i64 0,.nilFunc,.nilFunc] HZ.out ?_;intro w5 g5 b5;have H5:=ad g5;have B5:=ad b5;clear g5 b5) | (refine ae rfl 192 _ _ rfl wr.heap.size rfl (xV off wd f p) [.int .i64 0,.int .i64 0,.nilFunc,.nilFunc] rfl 192 H5.out HT.out.2 rfl (by simp[Value.oneCell']) ?_;intro w6 g6 t6;have H6:=ad g6;have T6:=ad t6;clear g6 t6));obtain⟨g,hg⟩:=named wr.heap.size;have LA:=ad A.out.lt;have LT:=ad T.out.lt;have LO:=ad O.out.lt;rw[<- hg.out]at H5 H6 T6 LA LT LO
   have NG:Hid (Below w.heap.size w w6) :=by
    have h:w.heap.size<=g:=by rw[hg.out];exact B.out.size
    exact B.out.trans ((B5.out.mono B.out.size).trans (T6.out.below h))
   have A6:Hid (bP w6 ab 5 (C j)) := (A.out.below B5.out A.out.lt).aD T6.out (Nat.ne_of_lt LA.out);have T6':Hid (ak w6 tb 192 Ct) := (T.out.below B5.out T.out.lt).aD T6.out (Nat.ne_of_lt LT.out);have O6:Hid (ak w6 hb 130 [v0,v1,v2,v3,v4,v5]) := (O.out.below B5.out O.out.lt).aD T6.out (Nat.ne_of_lt LO.out)
   have KS:Hid (∀w',Below w6.heap.size w6 w'->w'.cell? ⟨g,0,none⟩=some (.int .i64 off)/\w'.cell? ⟨g,1,none⟩=some (.int .i64 wd)/\w'.cell? ⟨g,2,none⟩=some (.func (.func f) #[] #[])/\w'.cell? ⟨hb,0,none⟩=some v0/\w'.cell? ⟨hb,1,none⟩=some v1/\w'.cell? ⟨hb,2,none⟩=some v2/\w'.cell? ⟨hb,3,none⟩=some v3/\w'.cell? ⟨hb,4,none⟩=some v4/\w'.cell? ⟨hb,5,none⟩=some v5) :=fun w' hw=>by
    have h:=H6.out.below hw H6.out.lt;have h':=O6.out.below hw O6.out.lt;exact⟨h.get 0 rfl,h.get 1 rfl,h.get 2 rfl,h'.get 0 rfl,h'.get 1 rfl,h'.get 2 rfl,h'.get 3 rfl,h'.get 4 rfl,h'.get 5 rfl⟩
   have NGA:Hid (g≠ab) :=by have:=LA.out;show _≠_;omega
   have NOA:Hid (hb≠ab) :=Nat.ne_of_lt L2.out;have NTA:Hid (tb≠ab) :=by have:=L3.out;show _≠_;omega
   have KT:Hid (∀w' w'',Below w6.heap.size w6 w'->dp w' w'' ab->w''.cell? ⟨g,0,none⟩=some (.int .i64 off)/\w''.cell? ⟨g,1,none⟩=some (.int .i64 wd)/\w''.cell? ⟨g,2,none⟩=some (.func (.func f) #[] #[])/\w''.cell? ⟨hb,0,none⟩=some v0/\w''.cell? ⟨hb,1,none⟩=some v1/\w''.cell? ⟨hb,2,none⟩=some v2/\w''.cell? ⟨hb,3,none⟩=some v3/\w''.cell? ⟨hb,4,none⟩=some v4/\w''.cell? ⟨hb,5,none⟩=some v5) :=fun w' w'' hw ht=>by
    have h:= (H6.out.below hw H6.out.lt).aD ht NGA.out;have h':= (O6.out.below hw O6.out.lt).aD ht NOA.out;exact⟨h.get 0 rfl,h.get 1 rfl,h.get 2 rfl,h'.get 0 rfl,h'.get 1 rfl,h'.get 2 rfl,h'.get 3 rfl,h'.get 4 rfl,h'.get 5 rfl⟩
   have CLj:=ad (CL.out j hj);have HE:Hid ((Tryz.prog.info? 5).map (·.size) =some 1) :=by show _=_;kernel_rfl
   have o1: (off:Int)<=512:=by have:=FIT.out;omega
   have o2:¬512<off:=by have:=FIT.out;omega
   have o3:¬512=off:=by have:=FIT.out;omega
   go_simp;rw[<- hg.out];refine wp_region_held_drew (S:= (fun w'=>w'.cell? ⟨g,0,none⟩=some (.int .i64 off)/\w'.cell? ⟨g,1,none⟩=some (.int .i64 wd)/\w'.cell? ⟨g,2,none⟩=some (.func (.func f) #[] #[])/\w'.cell? ⟨hb,0,none⟩=some v0/\w'.cell? ⟨hb,1,none⟩=some v1/\w'.cell? ⟨hb,2,none⟩=some v2/\w'.cell? ⟨hb,3,none⟩=some v3/\w'.cell? ⟨hb,4,none⟩=some v4/\w'.cell? ⟨hb,5,none⟩=some v5)) (by kernel_rfl) (KS.out _ aF.drew) (fun hHeld=>?_);refine aJ 0 (h:=aJ 1 (h:=aJ 2 (h:=aJ 3 (h:=?_))));simp only[Act.put,bB,bC,bD];refine aJ 4 (h:=aJ 5 (h:=aJ 6 (h:=aJ 7 (h:=?_))));simp only[Act.put,bB,bC,bD];refine tk 8 ?_;simp only[Act.put,bB,bC,bD];refine rd 9 fun K hK=>?_;go_simp;rw[FE.out,Oper.upon_enter];refine(HFj.out _).mono ?_;rintro e w7 ⟨b7,c7,rfl,r7,l7,n7,m7,d7⟩;have R7:=ad r7;have L7:=ad l7;have D7:=ad (aF.drew.trans d7);clear r7 l7 d7 n7 m7;go_wp2_with fail;refine hK.out _ _ (KS.out _ D7.out) (fun hHeld=>?_);clear hK K
   (try simp only[Act.put,bB,bC,bD])
   refine rd 10 fun K hK=>?_;have A7:=ad (A6.out.below D7.out A6.out.lt);refine sM rfl (.tmp 23) (.tmp 29) 25 25 rfl 5 Tryz.underlying25 HE.out ab off (512- off) (512- off) rfl (some ⟨b7,0,none⟩) wd c7 rfl (V j) (.dS R7.out L7.out) VLj.out 5 (C j) A7.out (by rw[CLj.out];omega) ?_;intro w8 a8 t8;have A8:=ad a8;have T8:=ad t8;clear a8 t8;refine hK.out _ _ (KT.out _ _ D7.out T8.out) (fun hHeld=>?_);clear hK K
   (try simp only[Act.put,bB,bC,bD])
   refine wpAnyH_done (by kernel_rfl) ?_ _
   have AN:Hid (bP w8 ab 5 (C (j+1))) :=by
    have h:=A8.out;rw[List.take_of_length_le (by have:=FIT.out;rw[VLj.out];omega),<- CN.out]at h;exact h
   have TN:=ad ((T6'.out.below D7.out T6'.out.lt).aD T8.out NTA.out);have ON:=ad ((O6.out.below D7.out O6.out.lt).aD T8.out NOA.out);have BN:=ad (NG.out.trans ((D7.out.mono NG.out.size).trans (T8.out.below LW.out)));clear o1 o2 o3;obtain⟨z,hz⟩:=named (goInt ↑(List.take (512- off) (V j)).length);rw[<- hz.out];clear hz;go_wp2;go_roundw
   case rel=>exact⟨j+1,by omega,by go_num,AN.out,TN.out,ON.out,BN.out⟩
   case measure=>simp[intOf];omega
  ·obtain rfl:j=13:=by omega
   go_wp2_with fail;refine(jC.Kh (some ⟨ab,0,none⟩) 512 (C 13) _ (CL.out 13 ah) A.out.bytes A.out.2).mono ?_;rintro e w9 ⟨b,rfl,h9,l9,b9⟩;have H9:=ad h9;have L9:=ad (Nat.le_trans B.out.size l9);have B9:=ad (ar B.out b9);clear h9 l9 b9;go_wp2;go_ret2;exact⟨b,rfl,H9.out,L9.out,B9.out⟩
section
variable (T:Int) (nm pf lk:ByteArray) (md sz:Int)
theorem Al (h:mA T nm pf lk md sz=0){j:Nat}(hj:j<13)(w:World) :
 Calls Tryz.prog (uT j) #[.agg (bA T nm pf lk md sz).toArray,.int .i64 (wC j:Int)] w (gA (DM T nm pf lk md sz j) (wC j) w) :=by
 obtain⟨k1,k2,k3,k4,k5,k6⟩:=dx.1 h
 match j,hj with
 |0,_=>exact Jf T nm pf lk md sz w 100 100 rfl k2
 |1,_=>exact Lc T nm pf lk md sz w k5.1 k5.2
 |2,_=>exact mD T nm pf lk md sz w 8 7 (by decide) (by decide) rfl
 |3,_=>exact mD T nm pf lk md sz w 8 7 (by decide) (by decide) rfl
 |4,_=>exact JJ T nm pf lk md sz w k6.1 k6.2
 |5,_=>exact mD T nm pf lk md sz w 12 11 (by decide) (by decide) rfl
 |6,_=>exact Li T nm pf lk md sz w (jr k1) 1
 |7,_=>exact KV T nm pf lk md sz w 100 100 rfl k3
 |8,_=>exact Hr T nm pf lk md sz w
 |9,_=>exact ym T nm pf lk md sz w
 |10,_=>exact mD T nm pf lk md sz w 8 7 (by decide) (by decide) rfl
 |11,_=>exact mD T nm pf lk md sz w 8 7 (by decide) (by decide) rfl
 |12,_=>exact Cs T nm pf lk md sz w 155 155 rfl k4
theorem MJ (w:World)(hn:nm.size<=maxLen)(hp:pf.size<=maxLen)(hk:lk.size<=maxLen)(h:mA T nm pf lk md sz=0) :
 Calls Tryz.prog 100 #[.agg (bA T nm pf lk md sz).toArray] w fun e w'=>∃b c,e= .returned (.tuple #[.slice (some ⟨b,0,none⟩) 512 c,.int .i64 0])/\aT w' b 0 (dL T nm pf lk md sz)/\w.heap.size<=b/\b<w'.heap.size/\512<=c/\c<=maxLen/\Below w.heap.size w w':=by
 have hk1:=jr (dx.1 h).1
 refine(vP (DM T nm pf lk md sz) (cont T nm pf lk md sz) (.int .u8 T) (.string nm) (.string pf) (.string lk) (.int .i64 md) (.int .i64 sz) w rfl (fun _ _=>rfl) (fun j hj=>kE h hj) (fun j hj=>kG h hj)
  (fun w=>by have:=eG T nm pf lk md sz w hn hp hk hk1;rw[h]at this;exact this) (fun j hj w=>Al T nm pf lk md sz h hj w)).mono ?_
 rintro e w' ⟨b,rfl,h1,h2,h3⟩;rw[po h]at h1;exact⟨b,512,rfl,h1.row,h2,h1.lt,ah,by unfold maxLen;omega,h3⟩
theorem JE (w:World)(hn:nm.size<=maxLen)(hp:pf.size<=maxLen)(hk:lk.size<=maxLen)(hT:0<=T/\T<=255)(h:mA T nm pf lk md sz≠0) :
 Calls Tryz.prog 100 #[.agg (bA T nm pf lk md sz).toArray] w fun e w'=>e= .returned (.tuple #[.slice none 0 0,.int .i64 (mA T nm pf lk md sz)])/\Below w.heap.size w w':=by
 have HK:Hid (∀w,Calls Tryz.prog 148 #[.agg (bA T nm pf lk md sz).toArray] w fun e w'=>e= .returned (.int .i64 (mA T nm pf lk md sz))/\Below w.heap.size w w') :=fun w=>eG T nm pf lk md sz w hn hp hk hT;obtain⟨E,hE⟩:=named (mA T nm pf lk md sz);rw[<- hE.out]at HK h⊢;have e1: (E !=0) =true:=by simpa using h
 clear h hE hn hp hk hT;go_enter Tryz.func100,Tryz.ntmps100;go_wp2_with (first| (refine aj rfl 130 _ rfl (bA T nm pf lk md sz) rfl ?_;intro w1 g1 b1;have H1:=ad g1;have B1:=ad b1;have c0:=g1.get 0 rfl;have c1:=g1.get 1 rfl;have c2:=g1.get 2 rfl;have c3:=g1.get 3 rfl;have c4:=g1.get 4 rfl;have c5:=g1.get 5 rfl;clear g1 b1));refine(HK.out _).mono ?_;rintro e w2 ⟨rfl,b2⟩;have B2:=ad (ar B1.out b2);clear b2 c0 c1 c2 c3 c4 c5 H1 B1;go_wp2;go_ret2;exact⟨rfl,B2.out⟩
end
end Go.Proofs.YtcjagakckffkiaaGreatDoor.Ust
namespace Go.Proofs.YtcjagakckffkiaaGreatDoor.Oct
open Go.RowKit
def Ch (n:Int) :Bool:=decide (48<=n/\n<=55)
theorem om (n:Int)(w:World) :
 Calls Tryz.prog 231 #[.int .u8 n] w fun e w'=>e= .returned (.bool (Ch n))/\w=w':=by
 by_cases h1:48<=n
 ·by_cases h2:n<=55
  ·have h:Ch n=true:=by unfold Ch;simp[h1,h2]
   rw[h];clear h;go_enter Tryz.func231,Tryz.ntmps231;go_wp2;go_ret;exact⟨rfl,rfl⟩
  ·have h:Ch n=false:=by unfold Ch;simp[h2]
   rw[h];clear h;go_enter Tryz.func231,Tryz.ntmps231;go_wp2;go_ret;exact⟨rfl,rfl⟩
 ·have h:Ch n=false:=by unfold Ch;simp[h1]
  rw[h];clear h;go_enter Tryz.func231,Tryz.ntmps231;go_wp2;go_ret;exact⟨rfl,rfl⟩
end Go.Proofs.YtcjagakckffkiaaGreatDoor.Oct
namespace Go.Proofs.YtcjagakckffkiaaGreatDoor.Oct
open Go.RowKit
theorem oy (a:Option Addr)(len cap:Nat)(w:World)(h:len<2\/22<len)(hm:len<=maxLen) :
 Calls Tryz.prog 207 #[.slice a len cap] w fun e w'=>e= .returned (.tuple #[.int .i64 0,.int .i64 2])/\w=w':=by
 unfold maxLen at hm;have hv:=ja (n:= (len:Int)) (by omega);clear h;go_enter Tryz.func207,Tryz.ntmps207;go_wp2_with (go_at_call 226;refine(cC _ _).mono ?_;rintro e w' ⟨rfl,rfl⟩);go_ret2;exact⟨rfl,rfl⟩
theorem yN (b off m cap:Nat)(zs:List Int)(w:World)(hz:zs.length=m+1)(h1:1<=m)(h2:m<=21)(hr:aT w b off zs)(hl:zs.getD m 0≠0) :
 Calls Tryz.prog 207 #[.slice (some ⟨b,off,none⟩) (m+1) cap] w fun e w'=>e= .returned (.tuple #[.int .i64 0,.int .i64 6])/\w=w':=by
 have hv:=fT (n:= (m:Int) +1) (by omega) (by omega);obtain⟨d,hd,d0,d1,hc⟩:=hr.get m (by omega);have hne:¬d=0:=by rw[hd];exact hl
 clear hd hl hr hz;go_enter Tryz.func207,Tryz.ntmps207;go_wp2_with (go_at_call 226;refine(cC _ _).mono ?_;rintro e w' ⟨rfl,rfl⟩);go_ret2;exact⟨rfl,rfl⟩
theorem Dr (b off m cap:Nat)(zs:List Int)(w:World)(hz:zs.length=m+1)(h1:1<=m)(h2:m<=21)(hr:aT w b off zs)(hl:zs.getD m 0=0)(ho:sK (zs.take m)) :
 Calls Tryz.prog 207 #[.slice (some ⟨b,off,none⟩) (m+1) cap] w fun e w'=>e= .returned (.tuple #[.int .i64 (val (zs.take m)),.int .i64 0])/\w=w':=by
 have hv:=fT (n:= (m:Int) +1) (by omega) (by omega);obtain⟨d,hd,d0,d1,hc⟩:=hr.get m (by omega);obtain rfl:d=0:=hd.trans hl;have HR:=ad hr;have HO:=ad ho;have HZ:=ad hz;clear hd hl hr hz ho;go_enter Tryz.func207,Tryz.ntmps207;go_wp2_with (go_at_call 226;refine(cC _ _).mono ?_;rintro e w' ⟨rfl,rfl⟩);go_loop [5,20] (fun t i=>∃j:Nat,j<=m/\i= .int .i64 j/\t= .int .i64 (val (zs.take j))) (fun _ i=>m- (intOf i).toNat)
 case atStart=>exact⟨0,Nat.zero_le _,rfl,rfl⟩
 case round=>
  obtain⟨j,hj,rfl,rfl⟩:=hrel;by_cases hlt:j<m
  ·obtain⟨d,hd,d2,d3,hcj⟩:=HR.out.get j (by have:=HZ.out;omega)
   have HV:Hid (val (zs.take (j+1)) =val (zs.take j) *8+ (d- 48)) :=by
    show _=_;rw[fa (by have:=HZ.out;omega),rY,hd]
   have hdd:48<=d/\d<=55:=by
    apply HO.out;rw[hd,List.mem_take_iff_getElem];have:=HZ.out;exact⟨j,by omega,by simp[List.getD_eq_getElem?_getD,show j<zs.length by omega]⟩
   obtain⟨d4,d5⟩:=hdd;have hod:Ch d=true:=by unfold Ch;simp[d4,d5]
   have hb:=zo j (zs.take j) (by have:=HZ.out;rw[List.length_take];omega) (fun x hx=>HO.out x (by
    rw[List.mem_take_iff_getElem]at hx⊢;obtain⟨i,hi,rfl⟩:=hx;exact⟨i,by omega,rfl⟩))
   obtain⟨b0,b1⟩:=hb;have b2:=qO (k:=j) (by omega);have b3:val (zs.take j)<=1152921504606846975:=Int.le_trans b1 b2;clear b1 b2 hd d2 d3;go_wp2_with (go_at_call 231;refine(om _ _).mono ?_;rintro e w' ⟨rfl,rfl⟩)
   go_round
   case rel=>exact⟨j+1,by omega,by go_num,by rw[HV.out]⟩
   case measure=>simp[intOf];omega
  ·obtain rfl:j=m:=by omega
   go_wp2;go_ret2;exact⟨rfl,rfl⟩
theorem xU (b off m cap:Nat)(zs:List Int)(w:World)(hz:zs.length=m+1)(h1:1<=m)(h2:m<=21)(hr:aT w b off zs)(hl:zs.getD m 0=0)(ho:¬sK (zs.take m)) :
 Calls Tryz.prog 207 #[.slice (some ⟨b,off,none⟩) (m+1) cap] w fun e w'=>e= .returned (.tuple #[.int .i64 0,.int .i64 6])/\w=w':=by
 have hv:=fT (n:= (m:Int) +1) (by omega) (by omega);obtain⟨d,hd,d0,d1,hc⟩:=hr.get m (by omega);obtain rfl:d=0:=hd.trans hl;have HR:=ad hr;have HO:=ad ho;have HZ:=ad hz;clear hd hl hr hz ho;go_enter Tryz.func207,Tryz.ntmps207;go_wp2_with (go_at_call 226;refine(cC _ _).mono ?_;rintro e w' ⟨rfl,rfl⟩);go_loop [5,20] (fun t i=>∃j:Nat,j<=m/\i= .int .i64 j/\t= .int .i64 (val (zs.take j))/\sK (zs.take j)) (fun _ i=>m- (intOf i).toNat)
 case atStart=>exact⟨0,Nat.zero_le _,rfl,rfl,fun x hx=>by simp at hx⟩
 case round=>
  obtain⟨j,hj,rfl,rfl,hoj⟩:=hrel;have HJ:=ad hoj;clear hoj;by_cases hlt:j<m
  ·obtain⟨d,hd,d2,d3,hcj⟩:=HR.out.get j (by have:=HZ.out;omega);have HD:=ad hd;clear hd;by_cases hdd:48<=d/\d<=55
   ·have HV:Hid (val (zs.take (j+1)) =val (zs.take j) *8+ (d- 48)) :=by
     show _=_;rw[fa (by have:=HZ.out;omega),rY,HD.out]
    have HJ':Hid (sK (zs.take (j+1))) :=by
     show sK _;rw[fa (by have:=HZ.out;omega),<- HD.out];intro x hx;rcases List.mem_append.1 hx with hx|hx
     ·exact HJ.out x hx
     ·obtain rfl:x=d:=by simpa using hx
      exact hdd
    obtain⟨d4,d5⟩:=hdd;have hod:Ch d=true:=by unfold Ch;simp[d4,d5]
    have hb:=zo j (zs.take j) (by have:=HZ.out;rw[List.length_take];omega) HJ.out;obtain⟨b0,b1⟩:=hb;have b2:=qO (k:=j) (by omega);have b3:val (zs.take j)<=1152921504606846975:=Int.le_trans b1 b2;clear b1 b2 d2 d3;go_wp2_with (go_at_call 231;refine(om _ _).mono ?_;rintro e w' ⟨rfl,rfl⟩)
    go_round
    case rel=>exact⟨j+1,by omega,by go_num,by rw[HV.out],HJ'.out⟩
    case measure=>simp[intOf];omega
   ·have hod:Ch d=false:=by unfold Ch;simp;omega
    clear hdd;go_wp2_with (go_at_call 231;refine(om _ _).mono ?_;rintro e w' ⟨rfl,rfl⟩);go_ret2;exact⟨rfl,rfl⟩
  ·obtain rfl:j=m:=by omega
   exact absurd HJ.out HO.out
theorem iZ (a:Option Addr)(len cap:Nat)(zs:List Int)(w:World)(h:BytesIn w a zs)(hz:zs.length=len)(hm:len<=maxLen) :
 Calls Tryz.prog 207 #[.slice a len cap] w fun e w'=>e= .returned (.tuple #[.int .i64 (DW zs),.int .i64 (Lo zs)])/\w=w':=by
 subst hz;by_cases h1:zs.length<2\/22<zs.length
 ·unfold DW Lo;rw[if_pos h1,if_pos h1];exact oy a _ cap w h1 hm
 ·rcases h with h|⟨b,off,rfl,_,hr⟩
  ·rw[h]at h1;simp at h1
  ·unfold DW Lo;rw[if_neg h1,if_neg h1];obtain⟨m,hm'⟩:∃m,zs.length=m+1:=⟨zs.length- 1,by omega⟩;by_cases h2:yZ zs
   ·rw[if_pos h2,if_pos h2,hm'];obtain⟨h3,h4⟩:=h2;rw[hm']at h3 h4;exact Dr b off m cap zs w hm' (by omega) (by omega) hr h3 h4
   ·rw[if_neg h2,if_neg h2,hm'];by_cases h3:zs.getD m 0=0
    ·exact xU b off m cap zs w hm' (by omega) (by omega) hr h3 (fun h4=>h2 (by unfold yZ;rw[hm'];exact⟨h3,h4⟩))
    ·exact yN b off m cap zs w hm' (by omega) (by omega) hr h3
end Go.Proofs.YtcjagakckffkiaaGreatDoor.Oct
namespace Go.Proofs.YtcjagakckffkiaaGreatDoor.Cst
open Go.RowKit
theorem _root_.Go.Proofs.YtcjagakckffkiaaGreatDoor.aT.front {w:World}{b off:Nat}{zs ys:List Int}(h:aT w b off zs){m:Nat}(e:zs=ys++List.replicate m 0) :aT w b off ys:=by
 subst e;refine⟨fun i hi=>?_,fun z hz=>h.2 z (List.mem_append_left _ hz)⟩;have:=h.1 i (by rw[List.length_append];omega)
 rwa [List.getD_eq_getElem?_getD,List.getElem?_append_left hi,<- List.getD_eq_getElem?_getD]at this
theorem _root_.Go.Proofs.YtcjagakckffkiaaGreatDoor.aT.trim {w:World}{b off:Nat}{zs:List Int}(h:aT w b off zs) :aT w b off (cF zs) :=by
 obtain⟨m,hm⟩:=jD zs;exact h.front hm
theorem Fe (b off cap:Nat)(zs:List Int)(w:World)(h:aT w b off zs)(hl:zs.length<=cap)(hm:cap<=maxLen) :
 Calls Tryz.prog 247 #[.slice (some ⟨b,off,none⟩) zs.length cap,.int .u8 0] w fun e w'=>e= .returned (.slice (some ⟨b,off,none⟩) (cF zs).length cap)/\w=w':=by
 unfold maxLen at hm;have H:=ad h;clear h;go_enter Tryz.func247,Tryz.ntmps247;go_wp2;go_loop [0] (fun t=>∃j:Nat,j<=zs.length/\t= .slice (some ⟨b,off,none⟩) j cap/\cF (zs.take j) =cF zs) (fun t=>match t with| .slice _ n _=>n|_=>0)
 case atStart=>exact⟨zs.length,ah,rfl,by rw[List.take_length]⟩
 case round=>
  obtain⟨j,hj,rfl,ht⟩:=hrel;have HT:=ad ht;clear ht;rcases j with _|k
  ·have HE:Hid ((cF zs).length=0) :=by show _=_;rw[<- HT.out];rfl
   go_wp2;go_ret;exact⟨by rw[HE.out];rfl,rfl⟩
  ·obtain⟨d,hd,d2,d3,hc⟩:=H.out.get k (by omega);have HD:=ad hd;clear hd;by_cases h0:d=0
   ·subst h0
    have HN:Hid (cF (zs.take k) =cF zs) :=by
     show _=_;rw[<- HT.out,qv (by omega),<- HD.out,fY]
    go_wp2
    go_round
    case rel=>exact⟨k,by omega,rfl,HN.out⟩
    case measure=>simp
   ·have h0': (d==0) =false:=by simpa using h0
    have HE:Hid ((cF zs).length=k+1) :=by
     show _=_;rw[<- HT.out,qv (by omega),<- HD.out,lF _ h0];simp;omega
    clear h0;go_wp2;go_ret;exact⟨by rw[HE.out];rfl,rfl⟩
set_option maxRecDepth 10000 in
theorem wN (b off cap:Nat)(zs:List Int)(w:World)(h:aT w b off zs)(h0:0<zs.length)(hl:zs.length<=cap)(hm:cap<=maxLen) :
 Calls Tryz.prog 229 #[.slice (some ⟨b,off,none⟩) zs.length cap,.string {data:= #[0]}] w fun e w'=>e= .returned (.slice (some ⟨b,off,none⟩) (cF zs).length cap)/\w=w':=by
 have H:=ad h;clear h;have HM:=ad hm;clear hm;have h1: ((zs.length:Int) ==0) =false:=beq_eq_false_iff_ne.2 (by omega);go_enter Tryz.func229,Tryz.ntmps229;go_wp2_with fail;refine(Fe _ _ _ zs _ H.out hl HM.out).mono ?_;rintro e w1 ⟨rfl,rfl⟩;go_wp2;go_ret;exact⟨rfl,rfl⟩
set_option maxRecDepth 20000 in
theorem Aq (a:Option Addr)(n cap:Nat)(zs:List Int)(w:World)(h:BytesIn w a zs)(hn:zs.length=n) :
 Calls Tryz.prog 230 #[.slice a n cap,.int .u8 0] w fun e w'=>e= .returned (.int .i64 (Lib.indexByte (Lib.bytesOf zs) 0))/\w=w':=by
 go_enter Tryz.func230,Tryz.ntmps230;go_wp2;rw[run_callFunc_extern Tryz.func251 (by kernel_rfl) (by kernel_rfl) (by kernel_rfl) (e:=Extern.BytealgIndexByte.indexByte) (by kernel_rfl),pM h n cap hn 0];simp only[Result.andThen];rw[Oper.upon_value];go_wp2;go_ret;exact⟨rfl,rfl⟩
set_option maxRecDepth 100000 in
theorem Bz (b off cap:Nat)(zs:List Int)(w:World)(h:aT w b off zs)(h0:1<=zs.length)(h1:zs.length<=256)(hl:zs.length<=cap)(hm:cap<=maxLen) :
 Calls Tryz.prog 205 #[.slice (some ⟨b,off,none⟩) zs.length cap] w fun e w'=>e= .returned (.tuple #[.string (strOfNums (nL zs)),.int .i64 (uO zs)])/\w=w':=by
 have H:=ad h;clear h;have HM:=ad hm;clear hm;have hv:pR zs.length=true:=fT (by omega) (by omega);obtain⟨k,HK⟩:=named (Lib.indexByte (Lib.bytesOf (cF zs)) 0);have hk:=Cl (cF zs) (xM zs H.out.2);rw[<- HK.out]at hk
 have hbt:Hid (∀w',w=w'->BytesIn w' (some ⟨b,off,none⟩) (cF zs)) :=fun w' e=>by
  subst e
  have hlt:b<w.heap.size:=by
   have:=H.out.1 0 h0;rcases Nat.lt_or_ge b w.heap.size with h|h
   ·exact h
   ·rw[World.cell?]at this;simp[Array.getElem?_eq_none h]at this
  exact .inr ⟨b,off,rfl,hlt,H.out.trim⟩
 by_cases h2: (0:Int)∈cF zs
 ·have hp:=hk.2 h2;have e1:nL zs= [] :=by unfold nL;rw[if_neg (by omega),if_pos h2]
  have e2:uO zs=6:=by unfold uO;rw[if_neg (by omega),if_pos h2]
  rw[e1,e2];clear e1 e2 hk h2;go_enter Tryz.func205,Tryz.ntmps205;go_wp2_with fail;refine(cC _ _).mono ?_;rintro e w' ⟨rfl,rfl⟩;go_wp2_with fail;refine(wN _ _ _ zs _ H.out h0 hl HM.out).mono ?_;rintro e w1 ⟨rfl,rfl⟩;go_wp2_with fail;refine(Aq _ _ _ _ _ (hbt.out _ rfl) rfl).mono ?_;rintro e w1 ⟨rfl,rfl⟩;rw[<- HK.out];go_wp2;go_ret2;exact⟨rfl,rfl⟩
 ·have hp:¬0<=k:=fun h=>h2 (hk.1 h);have e1:nL zs=cF zs:=by unfold nL;rw[if_neg (by omega),if_neg h2]
  have e2:uO zs=0:=by unfold uO;rw[if_neg (by omega),if_neg h2]
  rw[e1,e2];clear e1 e2 hk h2;have hc:=bF (P:=Tryz.prog) Tryz.underlying25 Tryz.underlying5 Tryz.underlying9 (hbt.out w rfl) (cF zs).length cap rfl;go_enter Tryz.func205,Tryz.ntmps205;go_wp2_with fail;refine(cC _ _).mono ?_;rintro e w' ⟨rfl,rfl⟩;go_wp2_with fail;refine(wN _ _ _ zs _ H.out h0 hl HM.out).mono ?_;rintro e w1 ⟨rfl,rfl⟩;go_wp2_with fail;refine(Aq _ _ _ _ _ (hbt.out _ rfl) rfl).mono ?_;rintro e w1 ⟨rfl,rfl⟩;rw[<- HK.out];go_wp2;go_ret2;exact⟨rfl,rfl⟩
theorem oy (a:Option Addr)(len cap:Nat)(w:World)(h:len<1\/256<len) :
 Calls Tryz.prog 205 #[.slice a len cap] w fun e w'=>e= .returned (.tuple #[.string {data:= #[]},.int .i64 2])/\w=w':=by
 have hv:pR len=false:=ja (by omega);clear h;go_enter Tryz.func205,Tryz.ntmps205;go_wp2_with fail;refine(cC _ _).mono ?_;rintro e w' ⟨rfl,rfl⟩;go_wp2;go_ret2;exact⟨rfl,rfl⟩
theorem iZ (a:Option Addr)(len cap:Nat)(zs:List Int)(w:World)(h:BytesIn w a zs)(hz:zs.length=len)(hl:len<=cap)(hm:cap<=maxLen) :
 Calls Tryz.prog 205 #[.slice a len cap] w fun e w'=>e= .returned (.tuple #[.string (strOfNums (nL zs)),.int .i64 (uO zs)])/\w=w':=by
 subst hz;by_cases h1:zs.length<1\/256<zs.length
 ·have e1:nL zs= [] :=by unfold nL;rw[if_pos h1]
  have e2:uO zs=2:=by unfold uO;rw[if_pos h1]
  rw[e1,e2];exact oy a _ cap w h1
 ·rcases h with h|⟨b,off,rfl,_,hr⟩
  ·rw[h]at h1;simp at h1
  ·exact Bz b off cap zs w hr (by omega) (by omega) hl hm
end Go.Proofs.YtcjagakckffkiaaGreatDoor.Cst
