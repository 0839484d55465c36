import Derived.Test.YtcjagakckffkiaaGreatDoorQ29
import Derived.Test.YtcjagakckffkiaaGreatDoorQ1
import Derived.Test.YtcjagakckffkiaaGreatDoorQ10
import Derived.Test.YtcjagakckffkiaaGreatDoorQ23
import Derived.Test.YtcjagakckffkiaaGreatDoorQ15
import Derived.Test.YtcjagakckffkiaaGreatDoorQ8
import Derived.Test.YtcjagakckffkiaaGreatDoorRows
import Derived.Test.YtcjagakckffkiaaGreatDoorQ12
import Derived.Test.YtcjagakckffkiaaGreatDoorQ3
import Derived.Deep.DeepMust
import Derived.Test.YtcjagakckffkiaaGreatDoorQ16
import Derived.Test.YtcjagakckffkiaaGreatDoorQ9
import Derived.Test.YtcjagakckffkiaaGreatDoorQ25
import Derived.Deep.RegionHeld3
set_option maxHeartbeats 16000000
namespace Go.Proofs.YtcjagakckffkiaaGreatDoor.Reb
open Go.RowKit Go.MapKept Go.Proofs.YtcjagakckffkiaaGreatDoor.Fit Pnm Tre Flt
theorem kX (w:World) :Calls Tryz.prog 36 #[] w fun e w'=>∃S g,e= .returned (.pointer (some ⟨g,0,none⟩))/\my w' S g []/\ (∀k,S k->w.heap.size<=k)/\Below w.heap.size w w':=by
 go_enter Tryz.func36,Tryz.ntmps36;go_wp2_with (first| (have q1:=M1.out;clear q1;refine bH rfl _ rfl .string ?_;intro w2 m2 b2;have M2:=ad m2;have M3:=ad (M1.out.below b2 M1.out.lt);have B2:=ad (ar B1.out b2);have L2:=ad M1.out.lt;clear m2 b2 M1) | (refine bH rfl _ rfl .string ?_;intro w1 m1 b1;have M1:=ad m1;have B1:=ad b1;clear m1 b1) | (refine aj rfl 153 _ rfl [.slice none 0 0,.map (some w.heap.size),.map (some w1.heap.size)] rfl ?_;intro w4 g4 b4;have G4:=ad g4;have M4:=ad (M2.out.below b4 M2.out.lt);have M5:=ad (M3.out.below b4 M3.out.lt);have B4:=ad (ar B2.out b4);clear g4 b4));go_ret;refine⟨fun k=>w.heap.size<=k/\k<w4.heap.size,_,rfl,my.nil G4.out M5.out M4.out (Nat.ne_of_lt L2.out) ⟨B2.out.size,G4.out.lt⟩ ⟨ah,M5.out.lt⟩ ⟨B1.out.size,M4.out.lt⟩ fun k h=>h.2,fun k h=>h.1,B4.out⟩
end Go.Proofs.YtcjagakckffkiaaGreatDoor.Reb
namespace Go.Proofs.YtcjagakckffkiaaGreatDoor.Reb
open Go.RowKit Go.Proofs.YtcjagakckffkiaaGreatDoor.Fit Pnm Tre Flt
structure QW (w:World) (g:Nat) (a:Option Addr) (n cap:Nat) (ys:List ft) :Prop where
 o:ak w g 98 [.slice a n cap]
 r:jy w a n cap ys
theorem Rd {z:Int}(h0:0<=z)(h1:z<=1000) : (Lit.int .i64 z).wf=true:=by
 have e1:IntKind.i64.min= -9223372036854775808:=by decide
 have e2:IntKind.i64.max=9223372036854775807:=by decide
 simp[Lit.wf];omega
theorem rQ {z:Int}(h1:0<=z)(h2:z<=9223372036854775807) :IntKind.i64.wrap z=z:=by
 have hb:IntKind.i64.bits=64:=rfl;have hs:IntKind.i64.signed=true:=rfl;unfold IntKind.wrap;simp only[hb,hs,Bool.true_and];have e: (2:Int) ^64=18446744073709551616:=by decide
 have e': (2:Int) ^ (64- 1) =9223372036854775808:=by decide
 rw[e,e',Int.emod_eq_of_lt h1 (by omega),if_neg (by simp;omega)]
end Go.Proofs.YtcjagakckffkiaaGreatDoor.Reb
namespace Go.Proofs.YtcjagakckffkiaaGreatDoor.Reb
open Go.RowKit Go.MapKept Go.Proofs.YtcjagakckffkiaaGreatDoor.Fit Pnm Tre Flt
structure Nw (S:Nat->Prop) (w w':World) (A:List Mb) (y:Mb) (u:aL) :Prop where
 n:u.n=dQ (A++ [y]) A.length
 s:pP u
 f:iq 0 w' u
 i:∀x,u.a=some x->S x.block\/ (w.heap.size<=x.block/\x.block<w'.heap.size)
theorem na {A:List Mb}{y:ft}{w:World}(hy:mC w y)(hn:A.length<=1000)(h3:¬y.n.e.k=3){x:Option Addr}{c:Nat} :
 pP ⟨dQ (A++ [y.n]) A.length,x,c⟩:=by
 have e:=iV (A:=A) (x:=y.n);rw[if_neg h3]at e;rw[e];refine⟨hy.k,hy.p,hy.m,hy.t,hy.d.2.2.2.1,hy.l,?_⟩;show(Lit.int .i64 (if y.n.e.k=1 then(A.length:Int) +1 else 0)).wf=true;by_cases h:y.n.e.k=1
 ·rw[if_pos h];have e1:IntKind.i64.min= -9223372036854775808:=by decide
  have e2:IntKind.i64.max=9223372036854775807:=by decide
  simp[Lit.wf];omega
 ·rw[if_neg h];decide
section
variable {w:World} {g cap gd gf Nd Nf:Nat} {a:Option Addr} {Fd Ff:Value->Option Value} {us:List aL} {A:List Mb} {S:Nat->Prop}
set_option maxRecDepth 100000 in
theorem Ef (hb:PB w g a cap gd gf Nd Nf Fd Ff us A)(hi:Mf S g a gd gf us)(y:ft)(hy:mC w y)(hA:A.length<=1000)(hc:iu A y.n.e=0)(h3:y.n.e.k=3) :
 Calls Tryz.prog 183 #[.pointer (some ⟨g,0,none⟩),.agg (lI y).toArray] w fun e w'=>∃u,e= .returned (.agg (fy u).toArray)/\Nw S w w' A y.n u/\Below w.heap.size w w':=by
 obtain⟨⟨⟨k,p,m,t,s⟩,d⟩,x,xc⟩:=y;obtain⟨L,hL⟩:=named d.length;have HL:Hid (d.length=L) :=hL.out.symm;obtain⟨n,hn⟩:=named A.length;have HB:=ad hb;have HI:=ad hi;have HY:=ad hy;have HN:Hid (A.length=n) :=hn.out.symm;have N40:Hid (n<=1000) :=by show _<=_;rw[hn.out];exact hA
 have EO:=ad Bt;have EZ:=ad Km;have NZ:=ad Bm;have NO:=ad Cm;have S1:Hid ((Tryz.prog.info? 3).map (·.size) =some 1) :=by show _=_;kernel_rfl
 have SS:Hid ((Tryz.prog.info? 9).map (·.size) =some 1) :=by show _=_;kernel_rfl
 have nc: (n:Int)<=cap:=by have:=hb.arg.c;rw[<- hn.out]at this;omega
 show Calls _ _ #[_,.agg (fD k p m t s x d.length xc).toArray] _ _;rw[HL.out];obtain rfl:k=3:=h3
 obtain⟨r,hr,hrm⟩:∃r,jL A 1 t=some r/\ (ma A r).e.m=m:=by
  have h:= (fc.mp hc).2.2.2;refine Classical.byContradiction fun hn=>h ⟨rfl,fun r h1 h2=>hn ⟨r,h1,h2⟩⟩
 have HR:=ad hr;obtain⟨r0,r1,_,_⟩:=eP.mp hr;obtain⟨b,v,rfl,hbl,hv,hvn,hvs,hvf,hat⟩:=hb.at_ r0;obtain⟨⟨k',q1,m',t',d',c'⟩,xr,xrc⟩:=v
 have hk: (⟨k',q1,m',t',d',c'⟩:Tre.Nd) =⟨1,q1,m,emp,(ma A r).d,(r:Int) +1⟩:=by
  have h1: (⟨k',q1,m',t',d',c'⟩:Tre.Nd) =dQ A r:=hvn;rcases hb.ng.kinds r0 with⟨r',_,_,_,e,e3,_⟩|⟨hk,_⟩
  ·obtain rfl:=e3 r1;rw[e]at h1;injection h1 with a1 a2 a3 a4 a5 a6;rw[a1,a3,a4,a5,a6,hrm]
  ·omega
 injection hk with a1 _ a3 a4 a5 a6;obtain rfl:m=m':=a3.symm;subst a1;subst a4;subst a6;obtain⟨Lr,hLr⟩:=named d'.length;have HLR:Hid (d'.length=Lr) :=hLr.out.symm;have ED:Hid (d'= (ma A r).d) :=a5;have VS:=ad hvs;have VF:=ad hvf;have HAT:=ad hat;have HBL:=ad hbl;have HV:=ad hv;have MEM:Hid (∀x,xr=some x->S x.block) :=fun x hx=>hi.u _ (List.mem_of_getElem? hv) x hx
 have LK:Hid (∀w',Below w.heap.size w w'-> (Instr.lookup 151 (.map (some gf)) (.string t) false).run Tryz.prog w'= .ok (.int .i64 r) w') :=fun w' h=>by
  have lk:= (bI (P:=Tryz.prog) (w:=w') 151 9 3 Tryz.underlying151 .string Tryz.underlying9 (.int .i64 0) (by kernel_rfl) gf Nf (.string t) (show IsKey .string (.string t)from trivial) Ff (hb.below h).mf).2;rw[hb.ff t,hr]at lk;exact lk
 have i1: (r:Int) <n:=by rw[hn.out];omega
 have i2: (r:Int) <cap:=by omega
 have i3: (0:Int)<=r:=by omega
 clear hr r0 r1 hbl hv hvn hvs hvf hat a5 hLr hc hrm;clear hb hi hy hn hL hA;go_enter Tryz.func183,Tryz.ntmps183;go_wp2_with (first| (refine aj rfl 70 _ rfl (fD 3 p m t s x L xc) rfl ?_;intro w1 g1 b1;have G1:=ad g1;have B1:=ad b1;clear g1 b1) | (refine ag rfl 77 rfl (bq 0 emp 0 emp none 0 0 0) NZ.out ?_;intro w2 g2 b2;have N2:=ad g2;have G2:=ad (G1.out.below b2 G1.out.lt);have L1:=ad (show w.heap.size<w1.heap.size from G1.out.lt);have B2:=ad (ar B1.out b2);clear g2 b2) | (refine cz rfl 68 5 EO.out _ rfl w.heap.size 0 rfl (aR 3 p m t s) rfl (fun j u hj=>by rw[Nat.zero_add,G2.out.cell];match j,hj with|0,hj=>exact hj|1,hj=>exact hj|2,hj=>exact hj|3,hj=>exact hj|4,hj=>exact hj) ?_) | (refine ag rfl 68 rfl (aR 0 emp 0 emp 0) EZ.out ?_;intro w3 g3 b3;have E3:=ad g3;have N3:=ad (N2.out.below b3 N2.out.lt);have G3:=ad (G2.out.below b3 G2.out.lt);have L2:=ad (show w1.heap.size<w2.heap.size from N2.out.lt);have B3:=ad (ar B2.out b3);clear g3 b3) | (refine ae rfl 68 _ _ rfl w2.heap.size rfl (aR 3 p m t s) (aR 0 emp 0 emp 0) rfl 68 E3.out EO.out.2 rfl (bt _ _ _ _ _) ?_;intro wz g4 t4;have EB:=ad g4;have NB:=ad (N3.out.aD t4 (Nat.ne_of_lt L2.out));have MB:=ad (G3.out.aD t4 (Nat.ne_of_lt (Nat.lt_trans L1.out L2.out)));have BZ:=ad (B3.out.trans (t4.below B2.out.size));have ZL:=ad (show w2.heap.size<wz.heap.size from g4.lt);have e0:=g4.get 0 rfl;clear g4 t4));clear G1 G2 G3 N2 N3 E3 B1 B2 B3;have D0:Hid (Below wz.heap.size wz wz.drew) :=aF.drew;clear e0
 have KS:Hid (∀w',Below wz.heap.size wz w'-> (fun w':World=>w'.cell? ⟨g,0,none⟩=some (.slice (some ⟨b,0,none⟩) n cap)/\w'.cell? ⟨g,2,none⟩=some (.map (some gf))/\ (Instr.lookup 151 (.map (some gf)) (.string t) false).run Tryz.prog w'= .ok (.int .i64 r) w'/\w'.cell? ⟨w2.heap.size,3,none⟩=some (.string t)/\w'.cell? ⟨b,r*6,none⟩=some (.int .i64 1)/\w'.cell? ⟨b,r*6+1,none⟩=some (.string q1)/\w'.cell? ⟨b,r*6+2,none⟩=some (.int .i64 m)/\w'.cell? ⟨b,r*6+3,none⟩=some (.string emp)/\w'.cell? ⟨b,r*6+4,none⟩=some (.slice xr Lr xrc)/\w'.cell? ⟨b,r*6+5,none⟩=some (.int .i64 ((r:Int) +1))) w') :=fun w' h=>by
  have hw:=ar BZ.out h;obtain⟨c0,c1,c2,c3,c4,c5⟩:= (HAT.out.below hw HBL.out).c HV.out;simp only[Nat.zero_add]at c0 c1 c2 c3 c4 c5;refine⟨?_,(HB.out.below hw).o.get 2 rfl,LK.out _ hw,(EB.out.below h EB.out.lt).get 3 rfl,c0,c1,c2,c3,?_,c5⟩
  ·rw[<- HN.out];exact(HB.out.below hw).o.get 0 rfl
  ·rw[<- HLR.out];exact c4
 refine wp_region_held_drew (S:= (fun w':World=>w'.cell? ⟨g,0,none⟩=some (.slice (some ⟨b,0,none⟩) n cap)/\w'.cell? ⟨g,2,none⟩=some (.map (some gf))/\ (Instr.lookup 151 (.map (some gf)) (.string t) false).run Tryz.prog w'= .ok (.int .i64 r) w'/\w'.cell? ⟨w2.heap.size,3,none⟩=some (.string t)/\w'.cell? ⟨b,r*6,none⟩=some (.int .i64 1)/\w'.cell? ⟨b,r*6+1,none⟩=some (.string q1)/\w'.cell? ⟨b,r*6+2,none⟩=some (.int .i64 m)/\w'.cell? ⟨b,r*6+3,none⟩=some (.string emp)/\w'.cell? ⟨b,r*6+4,none⟩=some (.slice xr Lr xrc)/\w'.cell? ⟨b,r*6+5,none⟩=some (.int .i64 ((r:Int) +1)))) (by kernel_rfl) (KS.out _ D0.out) (fun hHeld=>?_);refine aJ 0 (h:=aJ 1 (h:=aJ 2 (h:=aJ 3 (h:=?_))));simp only[Act.put,bB,bC,bD];refine aJ 4 (h:=aJ 5 (h:=aJ 6 (h:=aJ 7 (h:=?_))));simp only[Act.put,bB,bC,bD];refine aJ 8 (h:=aJ 9 (h:=aJ 10 (h:=aJ 11 (h:=?_))));simp only[Act.put,bB,bC,bD];refine tk 12 ?_;simp only[Act.put,bB,bC,bD];refine rd 13 fun K hK=>?_;refine cT rfl 77 rfl (bq 0 emp 0 emp none 0 0 0) NZ.out ?_;intro z1 g1 b1;have N1:Hid (ak z1 wz.heap.size 77 (bq 0 emp 0 emp none 0 0 0)) :=g1;have D1:Hid (Below wz.heap.size wz z1) :=D0.out.trans (b1.mono ah);clear g1 b1;refine hK.out _ _ (KS.out _ D1.out) (fun hHeld=>?_);clear hK K
 (try simp only[Act.put,bB,bC,bD])
 refine rd 14 fun K hK=>?_;refine cR rfl 77 (.tmp 6) (.tmp 25) rfl wz.heap.size rfl (bq 1 q1 m emp xr Lr xrc ((r:Int) +1)) (bq 0 emp 0 emp none 0 0 0) rfl 77 N1.out NO.out.2 rfl (bE _ _ _ _ _ _ _ _) ?_;intro z2 g2 t2;have N2:Hid (ak z2 wz.heap.size 77 (bq 1 q1 m emp xr Lr xrc ((r:Int) +1))) :=g2;have D2:Hid (Below wz.heap.size wz z2) :=D1.out.trans (t2.below ah);clear g2 t2;refine hK.out _ _ (KS.out _ D2.out) (fun hHeld=>?_);clear hK K
 (try simp only[Act.put])
 refine wpAnyH_done (by kernel_rfl) ?_ _;have NB2:=ad (NB.out.below D2.out NB.out.lt);have EB2:=ad (EB.out.below D2.out EB.out.lt);have e1:=EB2.out.get 1 rfl;have B2:=ad (ar BZ.out D2.out);have RZ:Hid (w1.heap.size<wz.heap.size) :=NB.out.lt;have WZ:Hid (w.heap.size<=w1.heap.size) :=Nat.le_of_lt L1.out;clear KS hHeld N1 D1;go_wp2_with (first| (refine aw rfl 9 _ _ rfl wz.heap.size 1 rfl (.string p) rfl rfl SS.out 77 _ N2.out (by show 1<6;decide) ?_;intro z3 g3 t3;have N4:Hid (ak z3 wz.heap.size 77 (bq 1 p m emp xr Lr xrc ((r:Int) +1))) :=g3;have B4:=ad (B2.out.trans (t3.below BZ.out.size));have NB4:=ad (NB2.out.aK t3 (Nat.ne_of_lt RZ.out));clear g3 t3) | (refine aG rfl 77 6 NO.out _ rfl wz.heap.size rfl 77 (bq 1 p m emp xr Lr xrc ((r:Int) +1)) N4.out rfl ?_) | (refine ae rfl 77 _ _ rfl w1.heap.size rfl (bq 1 p m emp xr Lr xrc ((r:Int) +1)) (bq 0 emp 0 emp none 0 0 0) rfl 77 NB4.out NO.out.2 rfl (bE _ _ _ _ _ _ _ _) ?_;intro z5 g5 t5;have N5:=ad g5;have B5:=ad (B4.out.trans (t5.below WZ.out));clear g5 t5));have FR:Hid (iq 0 z5 ⟨⟨1,p,m,emp,d',(r:Int) +1⟩,xr,xrc⟩) :=cJ VF.out B5.out ah;have ST:Hid (pP ⟨⟨1,p,m,emp,d',(r:Int) +1⟩,xr,xrc⟩) :=⟨VS.out.k,HY.out.p,VS.out.m,VS.out.t,VS.out.z,VS.out.l,VS.out.c⟩
 have EN:Hid ((⟨1,p,m,emp,d',(r:Int) +1⟩:Tre.Nd) =dQ (A++ [⟨⟨3,p,m,t,s⟩,d⟩]) A.length) :=by
  show _=_;rw[iV,if_pos (show(3:Int) =3 from rfl),HR.out,ED.out]
 exact bodyPost_ret (df Tryz.results183 NO.out _ w1.heap.size rfl _ _ N5.out rfl) rfl ⟨⟨⟨1,p,m,emp,d',(r:Int) +1⟩,xr,xrc⟩,by rw[<- HLR.out],⟨EN.out,ST.out,FR.out,fun x hx=> .inl (MEM.out x hx)⟩,B5.out⟩
theorem fK {w w':World}{base n size gn:Nat}{e T:TypeId}{v:Value}{xs vs:List Value}(h:w.ownsRow base e size v n xs)(ho:ak w gn T vs)(t:dp w w' gn)(hne:T≠e) :w'.ownsRow base e size v n xs:=by
 obtain⟨h1,h2⟩:=h;refine⟨h1,h2.imp id ?_⟩;rintro⟨b,cap,cur,hv,hb,hh,r⟩;refine⟨b,cap,cur,hv,hb,(t.other ?_).trans hh,r⟩;rintro rfl;have:=ho;unfold ak at this;rw[hh]at this;injection this with this;injection this with _ this _;exact hne this.symm
theorem sq {w w':World}{base n size gn:Nat}{e T:TypeId}{v:Value}{xs vs:List Value}(h:w.ownsRow base e size v n xs)(ho:ak w gn T vs)(t:cX w w' gn)(hne:T≠e) :w'.ownsRow base e size v n xs:=by
 obtain⟨h1,h2⟩:=h;refine⟨h1,h2.imp id ?_⟩;rintro⟨b,cap,cur,hv,hb,hh,r⟩;refine⟨b,cap,cur,hv,hb,(t.other ?_).trans hh,r⟩;rintro rfl;have:=ho;unfold ak at this;rw[hh]at this;injection this with this;injection this with _ this _;exact hne this.symm
set_option maxRecDepth 100000 in
theorem qR {vd vf:Value}(hb:ak w g 153 [.slice a A.length cap,vd,vf])(y:ft)(hy:mC w y)(hA:A.length<=1000)(h3:¬y.n.e.k=3) :
 Calls Tryz.prog 183 #[.pointer (some ⟨g,0,none⟩),.agg (lI y).toArray] w fun e w'=>∃u,e= .returned (.agg (fy u).toArray)/\Nw S w w' A y.n u/\Below w.heap.size w w':=by
 obtain⟨⟨⟨k,p,m,t,s⟩,d⟩,x,xc⟩:=y;obtain⟨L,hL⟩:=named d.length;have HL:Hid (d.length=L) :=hL.out.symm;obtain⟨n,hn⟩:=named A.length;have HB:=ad hb;have HY:=ad hy;have HN:Hid (A.length=n) :=hn.out.symm;have N40:Hid (n<=1000) :=by show _<=_;rw[hn.out];exact hA
 have EO:=ad Bt;have EZ:=ad Km;have NZ:=ad Bm;have NO:=ad Cm;have S1:Hid ((Tryz.prog.info? 3).map (·.size) =some 1) :=by show _=_;kernel_rfl
 have SS:Hid ((Tryz.prog.info? 9).map (·.size) =some 1) :=by show _=_;kernel_rfl
 show Calls _ _ #[_,.agg (fD k p m t s x d.length xc).toArray] _ _;rw[HL.out];have K3:Hid (¬k=3) :=h3;have n3: (k==3) =false:=by simpa using h3
 clear h3;clear hb hy hn hL hA;go_enter Tryz.func183,Tryz.ntmps183;go_wp2_with (first| (refine aj rfl 70 _ rfl (fD k p m t s x L xc) rfl ?_;intro w1 g1 b1;have G1:=ad g1;have B1:=ad b1;clear g1 b1) | (refine ag rfl 77 rfl (bq 0 emp 0 emp none 0 0 0) NZ.out ?_;intro w2 g2 b2;have N2:=ad g2;have G2:=ad (G1.out.below b2 G1.out.lt);have L1:=ad (show w.heap.size<w1.heap.size from G1.out.lt);have B2:=ad (ar B1.out b2);clear g2 b2) | (refine cz rfl 68 5 EO.out _ rfl w.heap.size 0 rfl (aR k p m t s) rfl (fun j u hj=>by rw[Nat.zero_add,G2.out.cell];match j,hj with|0,hj=>exact hj|1,hj=>exact hj|2,hj=>exact hj|3,hj=>exact hj|4,hj=>exact hj) ?_) | (refine ag rfl 68 rfl (aR 0 emp 0 emp 0) EZ.out ?_;intro w3 g3 b3;have E3:=ad g3;have N3:=ad (N2.out.below b3 N2.out.lt);have G3:=ad (G2.out.below b3 G2.out.lt);have L2:=ad (show w1.heap.size<w2.heap.size from N2.out.lt);have B3:=ad (ar B2.out b3);clear g3 b3) | (refine ae rfl 68 _ _ rfl w2.heap.size rfl (aR k p m t s) (aR 0 emp 0 emp 0) rfl 68 E3.out EO.out.2 rfl (bt _ _ _ _ _) ?_;intro wz g4 t4;have EB:=ad g4;have NB:=ad (N3.out.aD t4 (Nat.ne_of_lt L2.out));have MB:=ad (G3.out.aD t4 (Nat.ne_of_lt (Nat.lt_trans L1.out L2.out)));have BZ:=ad (B3.out.trans (t4.below B2.out.size));have ZL:=ad (show w2.heap.size<wz.heap.size from g4.lt);have e0:=g4.get 0 rfl;clear g4 t4));clear G1 G2 G3 N2 N3 E3 B1 B2 B3;have BC:Hid (∀w',Below wz.heap.size wz w'->Calls Tryz.prog 41 #[.slice x L xc] w' fun e w''=>∃v,e= .returned v/\w''.ownsRow w'.heap.size 5 1 v L (d.map (.int .u8))/\Below w'.heap.size w' w'') :=fun w' hb=>lO _ _ _ _ _ ((HY.out.below (ar BZ.out hb)).d.Bu) HL.out (by rw[<- HL.out];exact HY.out.l)
 have KS:Hid (∀w',Below wz.heap.size wz w'-> (fun w':World=>w'.cell? ⟨w2.heap.size,0,none⟩=some (.int .i64 k)/\w'.cell? ⟨w2.heap.size,1,none⟩=some (.string p)/\w'.cell? ⟨w2.heap.size,2,none⟩=some (.int .i64 m)/\w'.cell? ⟨w2.heap.size,3,none⟩=some (.string t)/\w'.cell? ⟨w.heap.size,5,none⟩=some (.slice x L xc)) w') :=fun w' h=>
  ⟨(EB.out.below h EB.out.lt).get 0 rfl,(EB.out.below h EB.out.lt).get 1 rfl,(EB.out.below h EB.out.lt).get 2 rfl,(EB.out.below h EB.out.lt).get 3 rfl,(MB.out.below h MB.out.lt).get 5 rfl⟩
 have D0:Hid (Below wz.heap.size wz wz.drew) :=aF.drew;clear e0;refine wp_region_held_drew (S:= (fun w':World=>w'.cell? ⟨w2.heap.size,0,none⟩=some (.int .i64 k)/\w'.cell? ⟨w2.heap.size,1,none⟩=some (.string p)/\w'.cell? ⟨w2.heap.size,2,none⟩=some (.int .i64 m)/\w'.cell? ⟨w2.heap.size,3,none⟩=some (.string t)/\w'.cell? ⟨w.heap.size,5,none⟩=some (.slice x L xc))) (by kernel_rfl) (KS.out _ D0.out) (fun hHeld=>?_);refine aJ 0 (h:=aJ 1 (h:=aJ 2 (h:=aJ 3 (h:=?_))));simp only[Act.put,bB,bC,bD];refine aJ 4 (h:=aJ 5 (h:=aJ 6 (h:=aJ 7 (h:=?_))));simp only[Act.put,bB,bC,bD];refine aJ 8 (h:=aJ 9 (h:=?_));simp only[Act.put,bB,bC,bD];refine Lv (rc 10 (fun K hK=>?_) (rc 12 (fun K hK=>?_) .nil))
 ·go_simp;refine(BC.out _ D0.out).mono ?_;rintro e z1 ⟨v,rfl,o1,b1⟩
  obtain⟨x1,xc1,rfl,F1⟩:∃x1 xc1,v= .slice x1 L xc1/\Hid (z1.ownsRow w.heap.size 5 1 (.slice x1 L xc1) L (d.map (.int .u8))) :=by
   obtain⟨x1,xc1,hv,_⟩:=bl o1;subst hv;exact⟨x1,xc1,rfl,eg o1 BZ.out.size⟩
  have D1:Hid (Below wz.heap.size wz z1) :=D0.out.trans (b1.mono ah);clear o1 b1;refine hK.out _ _ (KS.out _ D1.out) (fun hHeld=>?_);clear hK K
  (try simp only[Act.put,bB,bC,bD])
  refine tk 11 ?_;simp only[Act.put,bB,bC,bD];refine rd 12 fun K hK=>?_;refine cT rfl 77 rfl (bq 0 emp 0 emp none 0 0 0) NZ.out ?_;intro z2 g2 b2;obtain⟨gn,hgn⟩:=named z1.heap.size;have GN:Hid (wz.heap.size<=gn) :=by show _<=_;rw[hgn.out];exact D1.out.size
  have N2:Hid (ak z2 gn 77 (bq 0 emp 0 emp none 0 0 0)) :=by show ak _ _ _ _;rw[hgn.out];exact g2
  have D2:Hid (Below wz.heap.size wz z2) :=D1.out.trans (b2.mono D1.out.size);have F2:=ad (cJ F1.out b2 ah);rw[<- hgn.out];clear g2 b2 hgn;refine hK.out _ _ (KS.out _ D2.out) (fun hHeld=>?_);clear hK K
  (try simp only[Act.put,bB,bC,bD])
  refine rd 13 fun K hK=>?_;refine cR rfl 77 (.tmp 7) (.tmp 41) rfl gn rfl (bq k p m t x1 L xc1 0) (bq 0 emp 0 emp none 0 0 0) rfl 77 N2.out NO.out.2 rfl (bE _ _ _ _ _ _ _ _) ?_;intro z3 g3 t3;have N3:=ad g3;have D3:Hid (Below wz.heap.size wz z3) :=D2.out.trans (t3.below GN.out);have F3:Hid (z3.ownsRow w.heap.size 5 1 (.slice x1 L xc1) L (d.map (.int .u8))) :=fK F2.out N2.out t3 (by decide);clear g3 t3;refine hK.out _ _ (KS.out _ D3.out) (fun hHeld=>?_);clear hK K
  (try simp only[Act.put])
  refine wpAnyH_done (by kernel_rfl) ?_ _;have NB3:=ad (NB.out.below D3.out NB.out.lt);have EB3:=ad (EB.out.below D3.out EB.out.lt);have HB3:=ad (HB.out.below (ar BZ.out D3.out) HB.out.lt);have e0:=EB3.out.get 0 rfl;have g0:z3.cell? ⟨g,0,none⟩=some (.slice a n cap) :=by rw[<- HN.out];exact HB3.out.get 0 rfl
  have B3:=ad (ar BZ.out D3.out);have RZ:Hid (w1.heap.size<gn) :=Nat.lt_of_lt_of_le NB.out.lt GN.out;have WZ:Hid (w.heap.size<=w1.heap.size) :=Nat.le_of_lt L1.out;have WG:Hid (w.heap.size<=gn) :=Nat.le_trans BZ.out.size GN.out;clear KS hHeld D2 F2 N2 D1;by_cases k1:k=1
  ·subst k1;have e5:IntKind.i64.wrap ((n:Int) +1) = (n:Int) +1:=rQ (by omega) (by have:=N40.out;omega);go_wp2_with (first| (refine aw rfl 3 _ _ rfl gn 5 rfl (.int .i64 ((n:Int) +1)) rfl rfl S1.out 77 _ N3.out (by show 5<6;decide) ?_;intro z4 g4 t4;have N4:Hid (ak z4 gn 77 (bq 1 p m t x1 L xc1 ((n:Int) +1))) :=g4;have B4:=ad (B3.out.trans (t4.below WG.out));have F4:=ad (sq F3.out N3.out t4 (by decide));have NB4:=ad (NB3.out.aK t4 (Nat.ne_of_lt RZ.out));clear g4 t4) | (refine aG rfl 77 6 NO.out _ rfl gn rfl 77 (bq 1 p m t x1 L xc1 ((n:Int) +1)) N4.out rfl ?_) | (refine ae rfl 77 _ _ rfl w1.heap.size rfl (bq 1 p m t x1 L xc1 ((n:Int) +1)) (bq 0 emp 0 emp none 0 0 0) rfl 77 NB4.out NO.out.2 rfl (bE _ _ _ _ _ _ _ _) ?_;intro z5 g5 t5;have N5:=ad g5;have B5:=ad (B4.out.trans (t5.below WZ.out));have F5:=ad (fK F4.out NB4.out t5 (by decide));clear g5 t5))
   have EN:Hid ((⟨1,p,m,t,d,(n:Int) +1⟩:Tre.Nd) =dQ (A++ [⟨⟨1,p,m,t,s⟩,d⟩]) A.length) :=by
    show _=_;rw[iV,if_neg (show¬(1:Int) =3 from by decide),if_pos (show(1:Int) =1 from rfl),HN.out]
   have ST:Hid (pP ⟨⟨1,p,m,t,d,(n:Int) +1⟩,x1,xc1⟩) :=by
    have:=na (A:=A) HY.out (by rw[HN.out];exact N40.out) (show¬(1:Int) =3 from by decide) (x:=x1) (c:=xc1);rw[<- show dQ (A++ [⟨⟨1,p,m,t,s⟩,d⟩]) A.length=⟨1,p,m,t,d,(n:Int) +1⟩from EN.out.symm];exact this
   have FR:Hid (iq 0 z5 ⟨⟨1,p,m,t,d,(n:Int) +1⟩,x1,xc1⟩/\∀q,x1=some q->w.heap.size<=q.block/\q.block<z5.heap.size) :=by
    refine⟨?_,fun q hq=>?_⟩
    ·show z5.ownsRow 0 _ 1 (.slice x1 d.length xc1) d.length (d.map (.int .u8));rw[HL.out];exact eg F5.out (Nat.zero_le _)
    ·obtain⟨b',c',hv,_,_,_,_,hx⟩:=bl F5.out;injection hv with hv1 _ _;subst hv1;obtain⟨h1,h2,_⟩:=hx q hq;exact⟨h1,h2⟩
   exact bodyPost_ret (df Tryz.results183 NO.out _ w1.heap.size rfl _ _ N5.out rfl) rfl ⟨⟨⟨1,p,m,t,d,(n:Int) +1⟩,x1,xc1⟩,by rw[<- HL.out],⟨EN.out,ST.out,FR.out.1,fun q hq=> .inr (FR.out.2 q hq)⟩,B5.out⟩
  ·have n1: (k==1) =false:=by simpa using k1
   go_wp2_with (first| (refine aG rfl 77 6 NO.out _ rfl gn rfl 77 (bq k p m t x1 L xc1 (0)) N3.out rfl ?_) | (refine ae rfl 77 _ _ rfl w1.heap.size rfl (bq k p m t x1 L xc1 (0)) (bq 0 emp 0 emp none 0 0 0) rfl 77 NB3.out NO.out.2 rfl (bE _ _ _ _ _ _ _ _) ?_;intro z5 g5 t5;have N5:=ad g5;have B5:=ad (B3.out.trans (t5.below WZ.out));have F5:=ad (fK F3.out NB3.out t5 (by decide));clear g5 t5))
   have EN:Hid ((⟨k,p,m,t,d,0⟩:Tre.Nd) =dQ (A++ [⟨⟨k,p,m,t,s⟩,d⟩]) A.length) :=by
    show _=_;rw[iV,if_neg (show¬(k:Int) =3 from K3.out),if_neg (show¬(k:Int) =1 from k1)]
   have ST:Hid (pP ⟨⟨k,p,m,t,d,0⟩,x1,xc1⟩) :=by
    have:=na (A:=A) HY.out (by rw[HN.out];exact N40.out) (show¬(k:Int) =3 from K3.out) (x:=x1) (c:=xc1);rw[<- show dQ (A++ [⟨⟨k,p,m,t,s⟩,d⟩]) A.length=⟨k,p,m,t,d,0⟩from EN.out.symm];exact this
   have FR:Hid (iq 0 z5 ⟨⟨k,p,m,t,d,0⟩,x1,xc1⟩/\∀q,x1=some q->w.heap.size<=q.block/\q.block<z5.heap.size) :=by
    refine⟨?_,fun q hq=>?_⟩
    ·show z5.ownsRow 0 _ 1 (.slice x1 d.length xc1) d.length (d.map (.int .u8));rw[HL.out];exact eg F5.out (Nat.zero_le _)
    ·obtain⟨b',c',hv,_,_,_,_,hx⟩:=bl F5.out;injection hv with hv1 _ _;subst hv1;obtain⟨h1,h2,_⟩:=hx q hq;exact⟨h1,h2⟩
   exact bodyPost_ret (df Tryz.results183 NO.out _ w1.heap.size rfl _ _ N5.out rfl) rfl ⟨⟨⟨k,p,m,t,d,0⟩,x1,xc1⟩,by rw[<- HL.out],⟨EN.out,ST.out,FR.out.1,fun q hq=> .inr (FR.out.2 q hq)⟩,B5.out⟩
 ·refine cT rfl 77 rfl (bq 0 emp 0 emp none 0 0 0) NZ.out ?_;intro z1 g1 b1;obtain⟨gn,hgn⟩:=named wz.heap.size;have GN:Hid (wz.heap.size<=gn) :=by show _<=_;rw[hgn.out];exact ah
  have N1:Hid (ak z1 gn 77 (bq 0 emp 0 emp none 0 0 0)) :=by show ak _ _ _ _;rw[hgn.out];exact g1
  have D1:Hid (Below wz.heap.size wz z1) :=D0.out.trans (b1.mono ah);have EG:wz.drew.heap.size=gn:=hgn.out.symm;rw[EG];clear g1 b1 hgn EG;refine hK.out _ _ (KS.out _ D1.out) (fun hHeld=>?_);clear hK K
  (try simp only[Act.put,bB,bC,bD])
  refine rd 10 fun K hK=>?_;go_simp;refine(BC.out _ D1.out).mono ?_;rintro e z2 ⟨v,rfl,o1,b1⟩
  obtain⟨x1,xc1,rfl,F2⟩:∃x1 xc1,v= .slice x1 L xc1/\Hid (z2.ownsRow w.heap.size 5 1 (.slice x1 L xc1) L (d.map (.int .u8))) :=by
   obtain⟨x1,xc1,hv,_⟩:=bl o1;subst hv;exact⟨x1,xc1,rfl,eg o1 (Nat.le_trans BZ.out.size D1.out.size)⟩
  have N2:=ad (N1.out.below b1 N1.out.lt);have D2:Hid (Below wz.heap.size wz z2) :=D1.out.trans (b1.mono D1.out.size);clear o1 b1;refine hK.out _ _ (KS.out _ D2.out) (fun hHeld=>?_);clear hK K
  (try simp only[Act.put,bB,bC,bD])
  refine tk 11 ?_;simp only[Act.put,bB,bC,bD];refine rd 13 fun K hK=>?_;refine cR rfl 77 (.tmp 7) (.tmp 41) rfl gn rfl (bq k p m t x1 L xc1 0) (bq 0 emp 0 emp none 0 0 0) rfl 77 N2.out NO.out.2 rfl (bE _ _ _ _ _ _ _ _) ?_;intro z3 g3 t3;have N3:=ad g3;have D3:Hid (Below wz.heap.size wz z3) :=D2.out.trans (t3.below GN.out);have F3:Hid (z3.ownsRow w.heap.size 5 1 (.slice x1 L xc1) L (d.map (.int .u8))) :=fK F2.out N2.out t3 (by decide);clear g3 t3;refine hK.out _ _ (KS.out _ D3.out) (fun hHeld=>?_);clear hK K
  (try simp only[Act.put])
  refine wpAnyH_done (by kernel_rfl) ?_ _;have NB3:=ad (NB.out.below D3.out NB.out.lt);have EB3:=ad (EB.out.below D3.out EB.out.lt);have HB3:=ad (HB.out.below (ar BZ.out D3.out) HB.out.lt);have e0:=EB3.out.get 0 rfl;have g0:z3.cell? ⟨g,0,none⟩=some (.slice a n cap) :=by rw[<- HN.out];exact HB3.out.get 0 rfl
  have B3:=ad (ar BZ.out D3.out);have RZ:Hid (w1.heap.size<gn) :=Nat.lt_of_lt_of_le NB.out.lt GN.out;have WZ:Hid (w.heap.size<=w1.heap.size) :=Nat.le_of_lt L1.out;have WG:Hid (w.heap.size<=gn) :=Nat.le_trans BZ.out.size GN.out;clear KS hHeld D2 F2 N2 D1;by_cases k1:k=1
  ·subst k1;have e5:IntKind.i64.wrap ((n:Int) +1) = (n:Int) +1:=rQ (by omega) (by have:=N40.out;omega);go_wp2_with (first| (refine aw rfl 3 _ _ rfl gn 5 rfl (.int .i64 ((n:Int) +1)) rfl rfl S1.out 77 _ N3.out (by show 5<6;decide) ?_;intro z4 g4 t4;have N4:Hid (ak z4 gn 77 (bq 1 p m t x1 L xc1 ((n:Int) +1))) :=g4;have B4:=ad (B3.out.trans (t4.below WG.out));have F4:=ad (sq F3.out N3.out t4 (by decide));have NB4:=ad (NB3.out.aK t4 (Nat.ne_of_lt RZ.out));clear g4 t4) | (refine aG rfl 77 6 NO.out _ rfl gn rfl 77 (bq 1 p m t x1 L xc1 ((n:Int) +1)) N4.out rfl ?_) | (refine ae rfl 77 _ _ rfl w1.heap.size rfl (bq 1 p m t x1 L xc1 ((n:Int) +1)) (bq 0 emp 0 emp none 0 0 0) rfl 77 NB4.out NO.out.2 rfl (bE _ _ _ _ _ _ _ _) ?_;intro z5 g5 t5;have N5:=ad g5;have B5:=ad (B4.out.trans (t5.below WZ.out));have F5:=ad (fK F4.out NB4.out t5 (by decide));clear g5 t5))
   have EN:Hid ((⟨1,p,m,t,d,(n:Int) +1⟩:Tre.Nd) =dQ (A++ [⟨⟨1,p,m,t,s⟩,d⟩]) A.length) :=by
    show _=_;rw[iV,if_neg (show¬(1:Int) =3 from by decide),if_pos (show(1:Int) =1 from rfl),HN.out]
   have ST:Hid (pP ⟨⟨1,p,m,t,d,(n:Int) +1⟩,x1,xc1⟩) :=by
    have:=na (A:=A) HY.out (by rw[HN.out];exact N40.out) (show¬(1:Int) =3 from by decide) (x:=x1) (c:=xc1);rw[<- show dQ (A++ [⟨⟨1,p,m,t,s⟩,d⟩]) A.length=⟨1,p,m,t,d,(n:Int) +1⟩from EN.out.symm];exact this
   have FR:Hid (iq 0 z5 ⟨⟨1,p,m,t,d,(n:Int) +1⟩,x1,xc1⟩/\∀q,x1=some q->w.heap.size<=q.block/\q.block<z5.heap.size) :=by
    refine⟨?_,fun q hq=>?_⟩
    ·show z5.ownsRow 0 _ 1 (.slice x1 d.length xc1) d.length (d.map (.int .u8));rw[HL.out];exact eg F5.out (Nat.zero_le _)
    ·obtain⟨b',c',hv,_,_,_,_,hx⟩:=bl F5.out;injection hv with hv1 _ _;subst hv1;obtain⟨h1,h2,_⟩:=hx q hq;exact⟨h1,h2⟩
   exact bodyPost_ret (df Tryz.results183 NO.out _ w1.heap.size rfl _ _ N5.out rfl) rfl ⟨⟨⟨1,p,m,t,d,(n:Int) +1⟩,x1,xc1⟩,by rw[<- HL.out],⟨EN.out,ST.out,FR.out.1,fun q hq=> .inr (FR.out.2 q hq)⟩,B5.out⟩
  ·have n1: (k==1) =false:=by simpa using k1
   go_wp2_with (first| (refine aG rfl 77 6 NO.out _ rfl gn rfl 77 (bq k p m t x1 L xc1 (0)) N3.out rfl ?_) | (refine ae rfl 77 _ _ rfl w1.heap.size rfl (bq k p m t x1 L xc1 (0)) (bq 0 emp 0 emp none 0 0 0) rfl 77 NB3.out NO.out.2 rfl (bE _ _ _ _ _ _ _ _) ?_;intro z5 g5 t5;have N5:=ad g5;have B5:=ad (B3.out.trans (t5.below WZ.out));have F5:=ad (fK F3.out NB3.out t5 (by decide));clear g5 t5))
   have EN:Hid ((⟨k,p,m,t,d,0⟩:Tre.Nd) =dQ (A++ [⟨⟨k,p,m,t,s⟩,d⟩]) A.length) :=by
    show _=_;rw[iV,if_neg (show¬(k:Int) =3 from K3.out),if_neg (show¬(k:Int) =1 from k1)]
   have ST:Hid (pP ⟨⟨k,p,m,t,d,0⟩,x1,xc1⟩) :=by
    have:=na (A:=A) HY.out (by rw[HN.out];exact N40.out) (show¬(k:Int) =3 from K3.out) (x:=x1) (c:=xc1);rw[<- show dQ (A++ [⟨⟨k,p,m,t,s⟩,d⟩]) A.length=⟨k,p,m,t,d,0⟩from EN.out.symm];exact this
   have FR:Hid (iq 0 z5 ⟨⟨k,p,m,t,d,0⟩,x1,xc1⟩/\∀q,x1=some q->w.heap.size<=q.block/\q.block<z5.heap.size) :=by
    refine⟨?_,fun q hq=>?_⟩
    ·show z5.ownsRow 0 _ 1 (.slice x1 d.length xc1) d.length (d.map (.int .u8));rw[HL.out];exact eg F5.out (Nat.zero_le _)
    ·obtain⟨b',c',hv,_,_,_,_,hx⟩:=bl F5.out;injection hv with hv1 _ _;subst hv1;obtain⟨h1,h2,_⟩:=hx q hq;exact⟨h1,h2⟩
   exact bodyPost_ret (df Tryz.results183 NO.out _ w1.heap.size rfl _ _ N5.out rfl) rfl ⟨⟨⟨k,p,m,t,d,0⟩,x1,xc1⟩,by rw[<- HL.out],⟨EN.out,ST.out,FR.out.1,fun q hq=> .inr (FR.out.2 q hq)⟩,B5.out⟩
theorem Gl (hb:PB w g a cap gd gf Nd Nf Fd Ff us A)(hi:Mf S g a gd gf us)(y:ft)(hy:mC w y)(hA:A.length<=1000)(hc:iu A y.n.e=0) :
 Calls Tryz.prog 183 #[.pointer (some ⟨g,0,none⟩),.agg (lI y).toArray] w fun e w'=>∃u,e= .returned (.agg (fy u).toArray)/\Nw S w w' A y.n u/\Below w.heap.size w w':=by
 by_cases h3:y.n.e.k=3
 ·exact Ef hb hi y hy hA hc h3
 ·exact qR hb.o y hy hA h3
end
end Go.Proofs.YtcjagakckffkiaaGreatDoor.Reb
namespace Go.Proofs.YtcjagakckffkiaaGreatDoor.Tre
open Go.RowKit
section
variable {P:Program} {w:World} {ops:Array Oper} {o:Oper} {a:Act} {Q:Exit->Act->World->Prop} {K:Act->World->Prop} {E:Prop}
theorem cH (hgd:o.guard=none)(t e:TypeId)(x:Operand)(ho:o.op= .buildSlice t 1 #[(0,x)])(ht:P.underlying t=some (.slice e))(z:Value)(hI: (P.info? e).map (fun i=> (i.zero,i.size)) =some (some z,6))
 (y:aL)(hx:a.eval x= .agg (fy y).toArray)
 (k:∀w',ak w' w.heap.size e (ax [y])->Below w.heap.size w w'->K (a.put o.dst (.slice (some ⟨w.heap.size,0,none⟩) 1 1)) w') :
 if Region.wanted o (yielded ops a.tmps) =true then Oper.wp P o a w K Q else E:=by
 have hw:Region.wanted o (yielded ops a.tmps) =true:=by simp[Region.wanted,hgd]
 rw[if_pos hw];have hrun:=pE (P:=P) (w:=w) t e ht z hI y;unfold Oper.wp;simp only[execOp,ho,List.map_toArray,List.map_cons,List.map_nil,hx,hrun,Sem.run_bind,Sem.run_pure,Result.andThen_ok];exact k _ (heap_alloc_new w _) (aF.alloc ah _)
end
theorem nW {w:World}{base base' n:Nat}{e:TypeId}{v:Value}{xs:List Value}(h:w.ownsRow base e 6 v n xs)(hb:base'<=base) :w.ownsRow base' e 6 v n xs:=by
 obtain⟨h1,h2⟩:=h;refine⟨h1,?_⟩;rcases h2 with h2|⟨g,cap,cur,hv,hg,r⟩
 ·exact Or.inl h2
 ·exact Or.inr ⟨g,cap,cur,hv,Nat.le_trans hb hg,r⟩
theorem bY.take {w:World}{a:Option Addr}{ys:List aL}(h:bY w a ys)(i:Nat) :bY w a (ys.take i) :=by
 rcases h with rfl|⟨b,off,h1,h2,h3⟩
 ·exact .inl (by simp)
 ·refine .inr ⟨b,off,h1,h2,fun k y hk=>h3 k y ?_⟩;rw[List.getElem?_take]at hk
  split at hk
  ·exact hk
  ·cases hk
theorem bY.drop {w:World}{b off:Nat}{ys:List aL}(h:bY w (some ⟨b,off,none⟩) ys)(i:Nat) :bY w (some ⟨b,off+i*6,none⟩) (ys.drop i) :=by
 rcases h with rfl|⟨b',off',h1,h2,h3⟩
 ·exact .inl (by simp)
 ·cases h1
  refine .inr ⟨b,_,rfl,h2,fun k y hk j v hv=>?_⟩;rw[List.getElem?_drop]at hk;have:=h3 (i+k) y hk j v hv;rw[show off+i*6+k*6+j=off+ (i+k) *6+j by omega];exact this
end Go.Proofs.YtcjagakckffkiaaGreatDoor.Tre
