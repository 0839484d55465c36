import Derived.Test.YtcjagakckffkiaaGreatDoorQ9
import Derived.Test.YtcjagakckffkiaaGreatDoorQ12
import Derived.Test.YtcjagakckffkiaaGreatDoorQ1
import Derived.Test.YtcjagakckffkiaaGreatDoorQ24
import Derived.Test.YtcjagakckffkiaaGreatDoorQ7
import Derived.Test.YtcjagakckffkiaaGreatDoorQ23
import Derived.Test.YtcjagakckffkiaaGreatDoorQ10
import Derived.Test.YtcjagakckffkiaaGreatDoorQ15
set_option maxHeartbeats 16000000
namespace Go.Proofs.YtcjagakckffkiaaGreatDoor.Tre
open Go.RowKit Go.Proofs.YtcjagakckffkiaaGreatDoor.Fit
theorem MI {k:Int}{p:ByteArray}{m:Int}{t:ByteArray}{d:List Int}{c E R:Int}(hR:R=eT ⟨k,p,m,t,d,c⟩)(h1:0<=k)(h2:k<=2)(hE:E=dn ⟨k,p,m,t,if k=1 then(d.length:Int)else 0⟩) :
 R=if E≠0 then E else if k≠1/\0<d.length then 2 else if c<0\/ (k≠1/\c≠0)then 15 else 0:=by
 rw[hR,hE];unfold eT iD;dsimp only;rw[if_neg (by omega)]
 congr 2
 have e:d≠ []↔0<d.length:=List.length_pos_iff.symm;rw[e]
set_option maxRecDepth 100000 in
theorem DJ (k:Int)(p:ByteArray)(m:Int)(t:ByteArray)(a:Option Addr)(d:List Int)(cap:Nat)(c:Int)(w:World)(V:dF w)(hp:p.size<=maxLen)(ht:t.size<=maxLen) :
 Calls Tryz.prog 52 #[.agg (bq k p m t a d.length cap c).toArray] w fun e w'=>e= .returned (.int .i64 (eT ⟨k,p,m,t,d,c⟩))/\Below w.heap.size w w':=by
 have EZ:=ad Km;have EO:=ad Bt;have S8:=ad Qe;obtain⟨R,hR⟩:=named (eT ⟨k,p,m,t,d,c⟩);obtain⟨E,hE⟩:=named (dn ⟨k,p,m,t,if k=1 then(d.length:Int)else 0⟩)
 have HC:Hid (∀(s:Int) w',s= (if k=1 then(d.length:Int)else 0)->Below w.heap.size w w'->Calls Tryz.prog 86 #[.agg (aR k p m t s).toArray] w' fun e w''=>e= .returned (.int .i64 E)/\Below w'.heap.size w' w'') :=fun s w' hs hb=>by
  rw[hE.out,<- hs];exact lV k p m t s w' (V.go hb) hp ht
 have HR:Hid (0<=k->k<=2->R=if E≠0 then E else if k≠1/\0<d.length then 2 else if c<0\/ (k≠1/\c≠0)then 15 else 0) :=fun h1 h2=>MI hR.out h1 h2 hE.out;have HB:Hid (¬(0<=k/\k<=2)->R=8) :=fun h=>by rw[hR.out];unfold eT;dsimp only;rw[if_pos (by omega)]
 obtain⟨N,hN⟩:=named d.length;rw[<- hR.out];rw[<- hN.out]at HC HR⊢;clear hR hE hN V hp ht;by_cases hk:0<=k/\k<=2
 ·have HR':=ad (HR.out hk.1 hk.2);clear HR HB;by_cases k1:k=1
  ·subst k1;have HC':=ad fun(w':World) =>HC.out N w' (by rw[if_pos rfl])
   have HQ:Hid (R=if E≠0 then E else if c<0 then 15 else 0) :=by
    show _=_;rw[HR'.out,if_neg (c:= (1:Int)≠1/\_) (by omega)];by_cases z:c<0
    ·rw[if_pos (c:=c<0\/_) (.inl z),if_pos z]
    ·rw[if_neg (c:=c<0\/_) (by omega),if_neg z]
   clear HC HR' hk;go_enter Tryz.func52,Tryz.ntmps52;go_wp2_with (first| (refine aj rfl 77 _ rfl (bq 1 p m t a N cap c) rfl ?_;intro w1 g1 b1;have G1:=ad g1;have B1:=ad b1;have c0:=g1.get 0 rfl;have c1:=g1.get 1 rfl;have c2:=g1.get 2 rfl;have c3:=g1.get 3 rfl;clear g1 b1) | (refine ag rfl 68 rfl (aR 0 emp 0 emp 0) EZ.out ?_;intro w2 g2 b2;have G2:=ad g2;have N1:=ad G1.out.lt;have K1:=ad (G1.out.below b2 G1.out.lt);have B2:=ad (ar B1.out b2);clear g2 b2 c0 c1 c2 c3) | (refine ae rfl 68 _ _ rfl w1.heap.size rfl (aR 1 p m t 0) (aR 0 emp 0 emp 0) rfl 68 G2.out EO.out.2 rfl (bt _ _ _ _ _) ?_;intro w3 g3 t3;have G3:=ad g3;have K3:=ad (K1.out.aD t3 (Nat.ne_of_lt N1.out));have B3:=ad (B2.out.trans (t3.below B1.out.size));have c0:=K3.out.get 0 rfl;have c4:=K3.out.get 4 rfl;clear g3 t3) | (refine aw rfl 2 _ _ rfl w1.heap.size 4 rfl (.int .i64 N) rfl rfl S8.out 68 _ G3.out (by simp) ?_;intro w4 g4 t4;have G4:=ad (show ak w4 w1.heap.size 68 (aR 1 p m t N)from g4);have K4:=ad (K3.out.aK t4 (Nat.ne_of_lt N1.out));have B4:=ad (B3.out.trans (t4.below B1.out.size));have d0:=g4.get 0 rfl;have d1:=g4.get 1 rfl;have d2:=g4.get 2 rfl;have d3:=g4.get 3 rfl;have d4:=g4.get 4 rfl;clear g4 t4 c0 c4));refine(HC'.out w4 B4.out).mono ?_;rintro e w5 ⟨rfl,b5⟩;have K5:=ad (K4.out.below b5 K4.out.lt);have B5:=ad (ar B4.out b5);have c0:=K5.out.get 0 rfl;have c5:=K5.out.get 5 rfl;clear b5 d0 d1 d2 d3 d4 HC';by_cases z:E=0
   ·subst z;by_cases zc:c<0
    ·have e:=HQ.out;rw[if_neg (by simp),if_pos zc]at e;subst e;clear HQ;go_wp2_with fail;go_ret;exact⟨rfl,B5.out⟩
    ·have e:=HQ.out;rw[if_neg (by simp),if_neg zc]at e;subst e;clear HQ;go_wp2_with fail;go_ret;exact⟨rfl,B5.out⟩
   ·have e:=HQ.out;rw[if_pos z]at e;subst e;have nz: (R !=0) =true:=by simpa using z
    clear HQ z;go_wp2_with fail;go_ret;exact⟨rfl,B5.out⟩
  ·have HC':=ad fun(w':World) =>HC.out 0 w' (by rw[if_neg k1]);have n1: (k==1) =false:=by simpa using k1
   have n2: (k !=1) =true:=by simpa using k1
   have HQ:Hid (R=if E≠0 then E else if 0<N then 2 else if c=0 then 0 else 15) :=by
    show _=_;rw[HR'.out];by_cases z:0<N
    ·rw[if_pos (c:=k≠1/\_) ⟨k1,z⟩,if_pos z]
    ·rw[if_neg (c:=k≠1/\_) (fun h=>z h.2),if_neg z];by_cases z:c=0
     ·rw[if_neg (c:=c<0\/_) (by omega),if_pos z]
     ·rw[if_pos (c:=c<0\/_) (.inr ⟨k1,z⟩),if_neg z]
   have kk:k=0\/k=2:=by omega
   clear HC HR' hk k1;rcases kk with rfl|rfl
   all_goals
    go_enter Tryz.func52,Tryz.ntmps52;go_wp2_with (first| (refine aj rfl 77 _ rfl (bq _ p m t a N cap c) rfl ?_;intro w1 g1 b1;have G1:=ad g1;have B1:=ad b1;have c0:=g1.get 0 rfl;have c1:=g1.get 1 rfl;have c2:=g1.get 2 rfl;have c3:=g1.get 3 rfl;clear g1 b1) | (refine ag rfl 68 rfl (aR 0 emp 0 emp 0) EZ.out ?_;intro w2 g2 b2;have G2:=ad g2;have N1:=ad G1.out.lt;have K1:=ad (G1.out.below b2 G1.out.lt);have B2:=ad (ar B1.out b2);clear g2 b2 c0 c1 c2 c3) | (refine ae rfl 68 _ _ rfl w1.heap.size rfl (aR _ p m t 0) (aR 0 emp 0 emp 0) rfl 68 G2.out EO.out.2 rfl (bt _ _ _ _ _) ?_;intro w3 g3 t3;have G3:=ad g3;have K3:=ad (K1.out.aD t3 (Nat.ne_of_lt N1.out));have B3:=ad (B2.out.trans (t3.below B1.out.size));have c0:=K3.out.get 0 rfl;have c4:=K3.out.get 4 rfl;have d0:=g3.get 0 rfl;have d1:=g3.get 1 rfl;have d2:=g3.get 2 rfl;have d3:=g3.get 3 rfl;have d4:=g3.get 4 rfl;clear g3 t3));refine(HC'.out w3 B3.out).mono ?_;rintro e w5 ⟨rfl,b5⟩;have K5:=ad (K3.out.below b5 K3.out.lt);have B5:=ad (ar B3.out b5);have c0:=K5.out.get 0 rfl;have c4:=K5.out.get 4 rfl;have c5:=K5.out.get 5 rfl;clear b5 d0 d1 d2 d3 d4 HC';by_cases z:E=0
    ·subst z;by_cases zn:0<N
     ·have e:=HQ.out;rw[if_neg (by simp),if_pos zn]at e;subst e;have zi: (0:Int) <N:=by omega
      clear HQ zn;go_wp2_with fail;go_ret;exact⟨rfl,B5.out⟩
     ·have zi:¬(0:Int) <N:=by omega
      by_cases zc:c=0
      ·have e:=HQ.out;rw[if_neg (by simp),if_neg zn,if_pos zc]at e;subst e;subst zc;clear HQ zn;go_wp2_with fail;go_ret;exact⟨rfl,B5.out⟩
      ·have e:=HQ.out;rw[if_neg (by simp),if_neg zn,if_neg zc]at e;subst e;have nz: (c !=0) =true:=by simpa using zc
       clear HQ zn;by_cases zl:c<0
       ·clear nz zc;go_wp2_with fail;go_ret;exact⟨rfl,B5.out⟩
       ·clear zc;go_wp2_with fail;go_ret;exact⟨rfl,B5.out⟩
    ·have e:=HQ.out;rw[if_pos z]at e;subst e;have nz: (R !=0) =true:=by simpa using z
     clear HQ z;go_wp2_with fail;go_ret;exact⟨rfl,B5.out⟩
 ·have e:=HB.out hk;subst e
  have k0: (k==0) =false:=by have:k≠0:=by omega
                             simpa using this
  have k2: (k==2) =false:=by have:k≠2:=by omega
                             simpa using this
  have k1: (k==1) =false:=by have:k≠1:=by omega
                             simpa using this
  clear HR HB HC hk;go_enter Tryz.func52,Tryz.ntmps52;go_wp2_with (first| (refine aj rfl 77 _ rfl (bq k p m t a N cap c) rfl ?_;intro w1 g1 b1;have G1:=ad g1;have B1:=ad b1;have c0:=g1.get 0 rfl;have c1:=g1.get 1 rfl;have c2:=g1.get 2 rfl;have c3:=g1.get 3 rfl;clear g1 b1) | (refine ag rfl 68 rfl (aR 0 emp 0 emp 0) EZ.out ?_;intro w2 g2 b2;have G2:=ad g2;have N1:=ad G1.out.lt;have K1:=ad (G1.out.below b2 G1.out.lt);have B2:=ad (ar B1.out b2);clear g2 b2 c0 c1 c2 c3) | (refine ae rfl 68 _ _ rfl w1.heap.size rfl (aR k p m t 0) (aR 0 emp 0 emp 0) rfl 68 G2.out EO.out.2 rfl (bt _ _ _ _ _) ?_;intro w3 g3 t3;have B3:=ad (B2.out.trans (t3.below B1.out.size));have c0:= (K1.out.aD t3 (Nat.ne_of_lt N1.out)).get 0 rfl;clear g3 t3));go_ret;exact⟨rfl,B3.out⟩
end Go.Proofs.YtcjagakckffkiaaGreatDoor.Tre
namespace Go.Proofs.YtcjagakckffkiaaGreatDoor.Tre
open Go.RowKit Go.MapKept Go.Proofs.YtcjagakckffkiaaGreatDoor.Fit Pnm
set_option maxRecDepth 100000 in
theorem rq (a:Option Addr)(n cap:Nat)(ys:List aL)(w:World)(V:dF w)(ha:br w a n cap ys) :
 Calls Tryz.prog 28 #[.slice a n cap] w fun e w'=>e= .returned (.tuple #[.int .i64 (dA (aI ys)).1,.int .i64 (dA (aI ys)).2])/\Below w.heap.size w w':=by
 have HA:=ad ha;have HV:=ad V;have NZ:=ad Bm;have NO:=ad Cm;have hn:n<=maxLen:=Nat.le_trans ha.c ha.m;have HN:Hid (ys.length=n) :=ha.n;have HL:Hid ((aI ys).length=n) :=by show _=_;rw[bg];exact ha.n
 obtain⟨X1,hX1⟩:=named (dA (aI ys)).1;obtain⟨X2,hX2⟩:=named (dA (aI ys)).2
 have FIN:Hid (∀R:Int,∀i:Nat,i<n-> (∀k,k<i->eT (nd (aI ys) k) =0)->R=eT (nd (aI ys) i)->R≠0->X1=i/\X2=R) :=fun R i hi hp hR h0=>by
  have:=IA (l:=aI ys) (i:=i) (by rw[HL.out];exact hi) hp (by rw[<- hR];exact h0);rw[hX1.out,hX2.out,this,hR];exact⟨rfl,rfl⟩
 have HT:Hid ((∀k,k<n->eT (nd (aI ys) k) =0)->∀w',Below w.heap.size w w'->Calls Tryz.prog 53 #[.slice a n cap] w' fun e w''=>e= .returned (.tuple #[.int .i64 X1,.int .i64 X2])/\Below w'.heap.size w' w'') :=fun h w' hb=>by
  rw[hX1.out,hX2.out];exact Gv a n cap ys w' (HA.out.below hb) h
 rw[<- hX1.out,<- hX2.out];unfold maxLen at hn;clear ha V hX1 hX2;go_enter Tryz.func28,Tryz.ntmps28;go_wp2_with fail;go_loopw [9] (fun i wr=>∃j:Nat,i= .int .i64 j/\j<=n/\ (∀k,k<j->eT (nd (aI ys) k) =0)/\Below w.heap.size w wr) (fun i _=>n- (intOf i).toNat)
 case atStart=>exact⟨0,rfl,Nat.zero_le _,fun k hk=>absurd hk (Nat.not_lt_zero k),aF⟩
 case round=>
  obtain⟨j,rfl,hj,hp,hB⟩:=hrel;have HP:=ad hp;have HB:=ad hB;clear hp hB;by_cases hjn:j<n
  ·obtain⟨b,off,y,rfl,hb,hy,hf,hat⟩:=HA.out.get j hjn;have hat':=hat.below HB.out hb;obtain⟨c0,c1,c2,c3,c4,c5⟩:=hat'.c hy;obtain⟨R,hR⟩:=named (eT y.n);have EY:Hid (R=eT (nd (aI ys) j)) :=by show _=_;rw[hR.out,oI hy]
   have ONE:Hid (∀w',Below w.heap.size w w'->Calls Tryz.prog 52 #[.agg (fy y).toArray] w' fun e w''=>e= .returned (.int .i64 R)/\Below w'.heap.size w' w'') :=fun w' hb'=>by
    rw[hR.out];exact DJ y.n.k y.n.p y.n.m y.n.t y.a y.n.d y.cap y.n.c w' (HV.out.go hb') (Nat.le_trans hf.p (by decide)) (Nat.le_trans hf.t (by decide))
   clear hat hat' hf hy hR;obtain⟨⟨k,p,m,t,d,c⟩,x,xc⟩:=y;obtain⟨L,hL⟩:=named d.length;have c4':wr.cell? ⟨b,off+j*6+4,none⟩=some (.slice x L xc) :=by rw[hL.out];exact c4
   have ONE':Hid (∀w',Below w.heap.size w w'->Calls Tryz.prog 52 #[.agg (bq k p m t x L xc c).toArray] w' fun e w''=>e= .returned (.int .i64 R)/\Below w'.heap.size w' w'') :=by rw[hL.out];exact ONE.out
   clear c4 hL ONE hb;have j1: (j:Int) <n:=by omega
   go_wp2_with (first| (refine ag rfl 77 rfl (bq 0 emp 0 emp none 0 0 0) NZ.out ?_;intro w2 g2 b2;have G2:=ad g2;have B2:=ad (ar HB.out b2);clear g2 b2 c0 c1 c2 c3 c4' c5) | (refine ae rfl 77 _ _ rfl wr.heap.size rfl (bq k p m t x L xc c) (bq 0 emp 0 emp none 0 0 0) rfl 77 G2.out NO.out.2 rfl (bE _ _ _ _ _ _ _ _) ?_;intro w3 g3 t3;have B3:=ad (B2.out.trans (t3.below HB.out.size));have c0:=g3.get 0 rfl;have c1:=g3.get 1 rfl;have c2:=g3.get 2 rfl;have c3:=g3.get 3 rfl;have c4:=g3.get 4 rfl;have c5:=g3.get 5 rfl;clear g3 t3));refine(ONE'.out w3 B3.out).mono ?_;rintro e w4 ⟨rfl,b4⟩;have B4:=ad (ar B3.out b4);clear b4 c0 c1 c2 c3 c4 c5;by_cases hr:R=0
   ·subst hr;clear FIN HT;go_wp2_with fail
    go_round
    case rel=>exact⟨j+1,by go_num,by omega,fun k hk=>by
     by_cases h:k<j
     ·exact HP.out k h
     ·obtain rfl:k=j:=by omega
      exact EY.out.symm,B4.out⟩
    case measure=>simp[intOf];omega
   ·obtain⟨q1,q2⟩:=FIN.out R j hjn HP.out EY.out hr;have nr: (R !=0) =true:=by simpa using hr
    clear FIN HT hr EY ONE';subst q1 q2;go_wp2_with fail;go_ret2;exact⟨rfl,B4.out⟩
  ·obtain rfl:j=n:=by omega
   have H:=ad (HT.out HP.out wr HB.out);clear FIN HT;go_wp2_with fail;refine H.out.mono ?_;rintro e w4 ⟨rfl,b4⟩;have B4:=ad (ar HB.out b4);clear b4;go_wp2_with fail;go_ret2;exact⟨rfl,B4.out⟩
end Go.Proofs.YtcjagakckffkiaaGreatDoor.Tre
namespace Go.Proofs.YtcjagakckffkiaaGreatDoor.Tre
open Go.RowKit
theorem cL.of_cells {w:World}{g:Nat}{e:TypeId}{ys:List aL}(h:ak w g e (ax ys)) :cL w g 0 ys:=fun i y hi j v hv=>by
 rw[Nat.zero_add,h.cell];exact jt ys i y hi j v hv
theorem cL.news {w:World}{b off:Nat}{ys:List aL}(h:cL w b off ys) :∀j u,(ax ys)[j]? =some u->w.cell? ((⟨b,off,none⟩:Addr).add j) =some u:=fun j u hu=>by
 rw[dC];have hj:j< (ax ys).length:= (List.getElem?_eq_some_iff.mp hu).1;rw[eo]at hj;have hi:j/6<ys.length:=by omega
 have hy:ys[j/6]? =some ys[j/6] :=List.getElem?_eq_getElem hi;have hr:j % 6< (fy ys[j/6]).length:=by simp;omega
 have hv: (fy ys[j/6])[j % 6]? =some (fy ys[j/6])[j % 6] :=List.getElem?_eq_getElem hr;have h1:=jt ys (j/6) _ hy (j % 6) _ hv;rw[show j/6*6+j % 6=j by omega,hu]at h1;have h2:=h (j/6) _ hy (j % 6) _ hv;rw[show off+j/6*6+j % 6=off+j by omega]at h2;rw[h2,h1]
theorem xv (ys:List aL) :∀u∈ax ys,u.oneCell'=true:=by
 intro u hu;unfold ax at hu;obtain⟨y,_,h⟩:=List.mem_flatMap.mp hu;revert h;simp;rintro(rfl|rfl|rfl|rfl|rfl|rfl) <;>rfl
theorem bY.bJ {w:World}{base n:Nat}{e:TypeId}{v:Value}{ys:List aL}(h:w.ownsRow base e 6 v n (ax ys)) :
 ∃a c,v= .slice a n c/\n=ys.length/\n<=c/\c<=maxLen/\bY w a ys/\ (∀x,a=some x->base<=x.block/\x.block<w.heap.size) :=by
 have hl:=h.1;rw[eo]at hl;have hn:n=ys.length:=by omega
 rcases h.2 with⟨hv,h0⟩|⟨g,cap,cur,hv,hb,hh,hc,hm,hs,ht⟩
 ·subst h0;exact⟨none,0,hv,hn,ah,Nat.zero_le _,.inl (List.length_eq_zero_iff.1 hn.symm),fun x hx=>by cases hx⟩
 ·have hlt:g<w.heap.size:= (Array.getElem?_eq_some_iff.1 hh).1;refine⟨some ⟨g,0,none⟩,cap,hv,hn,hc,hm,.inr ⟨g,0,rfl,hlt,fun i y hi j u hu=>?_⟩,fun x hx=>by cases hx;exact⟨hb,hlt⟩⟩;have hat:=jt ys i y hi j u hu;have hir:i<ys.length:= (List.getElem?_eq_some_iff.1 hi).1;have hj6:j<6:=by have:= (List.getElem?_eq_some_iff.mp hu).1;simpa using this
  have hlt2:i*6+j<n*6:=by omega
  rw[<- ht,List.getElem?_take,if_pos hlt2]at hat;rw[Nat.zero_add,World.cell?,hh]
  simpa using hat
theorem br.bJ {w:World}{base n:Nat}{e:TypeId}{v:Value}{ys:List aL}(h:w.ownsRow base e 6 v n (ax ys))(hf:∀y∈ys,su w y) :
 ∃a c,v= .slice a n c/\br w a n c ys:=by
 obtain⟨a,c,rfl,hn,hc,hm,hi,_⟩:=bY.bJ h;exact⟨a,c,rfl,hn.symm,hc,hm,hi,hf⟩
section
variable {P:Program} {w:World} {ops:Array Oper} {rest:List Oper} {o:Oper} {a:Act} {Q:Exit->Act->World->Prop}
theorem xu (t e:TypeId)(ht:P.underlying t=some (.slice e))(z:Value)(hI: (P.info? e).map (fun i=> (i.zero,i.size)) =some (some z,6)) :
 (Instr.buildSlice t 0 #[]).run P w= .ok (.slice (some ⟨w.heap.size,0,none⟩) 0 0) (w.alloc (.cells #[] e)) :=by
 cases hq:P.info? e with
 |none=>simp[hq]at hI
 |some i=>
  simp[hq]at hI;simp[Instr.buildSlice,run_underlying ht,sizeOf,typeInfo,hq,Instr.fill,newRow];rw[show Array.range 0= #[] by decide];simp
theorem wA (w:World)(e:TypeId) : (w.alloc (.cells #[] e)).ownsRow w.heap.size e 6 (.slice (some ⟨w.heap.size,0,none⟩) 0 0) 0 (ax []) :=
 ⟨rfl,.inr ⟨w.heap.size,0,#[],rfl,ah,heap_alloc_new w _,ah,Nat.zero_le _,rfl,rfl⟩⟩
theorem pE (t e:TypeId)(ht:P.underlying t=some (.slice e))(z:Value)(hI: (P.info? e).map (fun i=> (i.zero,i.size)) =some (some z,6))(y:aL) :
 (Instr.buildSlice t 1 #[(0,.agg (fy y).toArray)]).run P w= .ok (.slice (some ⟨w.heap.size,0,none⟩) 1 1) (w.alloc (.cells (ax [y]).toArray e)) :=by
 cases hq:P.info? e with
 |none=>simp[hq]at hI
 |some i=>
  simp[hq]at hI;simp[Instr.buildSlice,run_underlying ht,sizeOf,typeInfo,zeroValue,hq,hI.1,hI.2,Instr.fill,newRow,Value.cells];rw[show Array.range 6= #[0,1,2,3,4,5] by decide];simp[ax]
theorem gX (hgd:o.guard=none)(t e:TypeId)(x:Operand)(ho:o.op= .buildSlice t 1 #[(0,x)])(ht:P.underlying t=some (.slice e))(z:Value)(hI: (P.info? e).map (fun i=> (i.zero,i.size)) =some (some z,6))
 (y:aL)(hx:a.eval x= .agg (fy y).toArray)
 (K:∀w',ak w' w.heap.size e (ax [y])->Below w.heap.size w w'->wpList P ops Q rest (a.put o.dst (.slice (some ⟨w.heap.size,0,none⟩) 1 1)) w') :wpList P ops Q (o::rest) a w:=by
 refine wpList_plain hgd fun K' hK=>?_;have hrun:=pE (P:=P) (w:=w) t e ht z hI y;unfold Oper.wp;simp only[execOp,ho,List.map_toArray,List.map_cons,List.map_nil,hx,hrun,Sem.run_bind,Sem.run_pure,Result.andThen_ok];exact hK _ _ (K _ (heap_alloc_new w _) (aF.alloc ah _))
theorem fp (hgd:o.guard=none)(t e:TypeId)(ho:o.op= .buildSlice t 0 #[])(ht:P.underlying t=some (.slice e))(z:Value)(hI: (P.info? e).map (fun i=> (i.zero,i.size)) =some (some z,6))
 (K:∀w',w'.ownsRow w.heap.size e 6 (.slice (some ⟨w.heap.size,0,none⟩) 0 0) 0 (ax [])->Below w.heap.size w w'->wpList P ops Q rest (a.put o.dst (.slice (some ⟨w.heap.size,0,none⟩) 0 0)) w') :wpList P ops Q (o::rest) a w:=by
 refine wpList_plain hgd fun K' hK=>?_;have hrun:=xu (P:=P) (w:=w) t e ht z hI;unfold Oper.wp;simp[execOp,ho,hrun,Result.andThen];exact hK _ _ (K _ (wA w e) (aF.alloc ah _))
theorem kz (t ty e:TypeId)(base:Nat)(i0:TypeInfo)(z:Value)(hT:P.underlying t=some (.slice e))(hI:Hid (P.info? e=some i0/\i0.zero=some z/\i0.size=6/\i0.bytes=80))(hz:z.cells.size=6)
 (v:Value)(n:Nat)(ys:List aL)(hown:w.ownsRow base e 6 v n (ax ys))
 (b:Option Addr)(m c:Nat)(xs:List aL)(hy:bY w b xs)(hl:xs.length=m)(h47:n+m<=1759218604441)(hbase:base<=w.heap.size) :
 ∃v' w',(Builtin.append_ #[t,t] ty #[v,.slice b m c]).run P w= .ok v' w'/\w'.ownsRow base e 6 v' (n+m) (ax (ys++xs))/\Below base w w'/\ (∀k,k<w.heap.size->some k≠v.ownBlock->w'.heap[k]? =w.heap[k]?)/\ (v'.ownBlock=v.ownBlock\/v'.ownBlock=some w.heap.size) :=by
 rcases hy with hy|⟨b',off,rfl,_,hy⟩
 ·subst hy;obtain rfl:m=0:=hl.symm;exact⟨v,w,ew (P:=P) w base t ty e i0 6 hT hI.out.1 v n _ hown b c,by simpa using hown,aF,fun _ _ _=>rfl,.inl rfl⟩
 ·obtain⟨v',w',hr,k1,k2,_,k3⟩:=run_append_own_at (P:=P) w base t ty e i0 z 6 80 hT hI.out.1 hI.out.2.1 hI.out.2.2.1 hI.out.2.2.2 hz (by decide) v n _ hown ⟨b',off,none⟩ m c (ax xs) (by rw[eo,hl]) hy.news (xv xs) (by unfold maxLen;omega) (by omega) hbase;exact⟨v',w',hr,by rw[sk];exact k1,aF.grown k2 hbase (fun k hk=> (oQ hown k hk).1),fun k hk hr=>k2.block k hk hr,k3⟩
theorem bp (hgd:o.guard=none)(s x:Operand)(t:TypeId)(ho:o.op= .call {callee:= .builtin .append,args:= #[s,x],argTypes:= #[t,t]})
 (e:TypeId)(base:Nat)(i0:TypeInfo)(z:Value)(hT:P.underlying t=some (.slice e))(hI:Hid (P.info? e=some i0/\i0.zero=some z/\i0.size=6/\i0.bytes=80))(hz:z.cells.size=6)
 (v:Value)(n:Nat)(ys:List aL)(hs:a.eval s=v)(hown:w.ownsRow base e 6 v n (ax ys))
 (b:Option Addr)(m c:Nat)(xs:List aL)(hx:a.eval x= .slice b m c)(hy:bY w b xs)(hl:xs.length=m)(h47:n+m<=1759218604441)(hbase:base<=w.heap.size)
 (K:∀v' w',w'.ownsRow base e 6 v' (n+m) (ax (ys++xs))->Below base w w'-> (∀k,k<w.heap.size->some k≠v.ownBlock->w'.heap[k]? =w.heap[k]?)-> (v'.ownBlock=v.ownBlock\/v'.ownBlock=some w.heap.size)->wpList P ops Q rest (a.put o.dst v') w') :wpList P ops Q (o::rest) a w:=by
 obtain⟨v',w',hr,k1,k2,k3,k4⟩:=kz (P:=P) (w:=w) t o.type e base i0 z hT hI hz v n ys hown b m c xs hy hl h47 hbase;refine wpList_plain hgd fun K' hK=>?_;unfold Oper.wp;simp[execOp,ho,resolve,invoke,builtin,hs,hx,hr,Result.andThen];exact hK _ _ (K _ _ k1 k2 k3 k4)
end
end Go.Proofs.YtcjagakckffkiaaGreatDoor.Tre
namespace Go.Proofs.YtcjagakckffkiaaGreatDoor.Tre
open Go.RowKit Go.Proofs.YtcjagakckffkiaaGreatDoor.Fit Pnm
theorem QQ: (Tryz.prog.info? 77).map (fun i=> (i.zero,i.size)) =some (some (.agg (bq 0 emp 0 emp none 0 0 0).toArray),6) :=by kernel_rfl
end Go.Proofs.YtcjagakckffkiaaGreatDoor.Tre
namespace Go.Proofs.YtcjagakckffkiaaGreatDoor.Tre
open Go.RowKit Go.MapKept Go.Proofs.YtcjagakckffkiaaGreatDoor.Fit
set_option maxRecDepth 100000 in
theorem se (a:Option Addr)(n cap:Nat)(ys:List aL)(w:World)(hy:bY w a ys)(hl:ys.length=n)(hn:n<=1000000) :
 Calls Tryz.prog 94 #[.slice a n cap] w fun e w'=>∃v,e= .returned v/\w'.ownsRow w.heap.size 77 6 v n (ax ys)/\Below w.heap.size w w':=by
 have HY:=ad hy;have HL:=ad hl;have HN:=ad hn;have I6:=ad QQ;obtain⟨i0,HI0⟩:=qf (P:=Tryz.prog) (e:=77) (z:= .agg (bq 0 emp 0 emp none 0 0 0).toArray) (s:=6) (b:=80) (by kernel_rfl);clear hy hl hn;have he:∀w:World,(binOp .eql 22 (.slice none n cap) (.slice none 0 0)).run Tryz.prog w= .ok (.bool true) w:=fun _=>rfl;have he':∀(x:Addr) (w:World),(binOp .eql 22 (.slice (some x) n cap) (.slice none 0 0)).run Tryz.prog w= .ok (.bool false) w:=fun _ _=>rfl
 cases a with
 |none=>
  have h0:ys= [] :=by
   rcases HY.out with h|⟨_,_,h,_⟩
   ·exact h
   ·cases h
  subst h0;obtain rfl:n=0:=HL.out.symm;go_enter Tryz.func94,Tryz.ntmps94;go_wp2;go_ret;exact⟨_,rfl,⟨rfl,.inl ⟨rfl,rfl⟩⟩,aF⟩
 |some x=>
  go_enter Tryz.func94,Tryz.ntmps94;go_wp2_with (first| (refine fp rfl 22 77 rfl Tryz.underlying22 _ I6.out ?_;intro w1 h1 b1;have O1:=ad h1;have B1:=ad b1;clear h1 b1) | (at_builtin;refine bp rfl _ _ 22 rfl 77 w.heap.size i0 _ Tryz.underlying22 HI0 rfl (.slice (some ⟨w.heap.size,0,none⟩) 0 0) 0 [] rfl O1.out (some x) n cap ys rfl (HY.out.below B1.out) HL.out (by have:=HN.out;omega) B1.out.size ?_;intro v2 w2 h2 b2 _ _;rw[Nat.zero_add,List.nil_append]at h2;have O2:=ad h2;have B2:=ad b2;clear h2 b2));go_ret;exact⟨_,rfl,O2.out,B1.out.trans B2.out⟩
set_option maxRecDepth 100000 in
theorem Eo (a:Option Addr)(cap:Nat)(w:World) :
 Calls Tryz.prog 95 #[.slice a 0 cap,.func (.func 96) #[] #[]] w fun e w'=>e= .returned (.tuple #[])/\w'=w:=by
 have I:Hid (Calls Tryz.prog 193 #[.slice a 0 cap,.int .i64 0,.int .i64 0,.func (.func 96) #[] #[]] w fun e w'=>e= .returned (.tuple #[])/\w'=w) :=by
  show Calls _ _ _ _ _;go_enter Tryz.func193,Tryz.ntmps193;go_wp2_with fail;go_loopw [8] (fun v wr=>v= .int .i64 1/\wr=w) (fun _ _=>0)
  case atStart=>exact⟨rfl,rfl⟩
  case round=>
   obtain⟨rfl,rfl⟩:=hrel;go_wp2_with fail
   go_end0
   exact⟨rfl,rfl⟩
 have S:Hid (Calls Tryz.prog 144 #[.slice a 0 cap,.int .i64 0,.func (.func 96) #[] #[]] w fun e w'=>e= .returned (.tuple #[])/\w'=w) :=by
  show Calls _ _ _ _ _;go_enter Tryz.func144,Tryz.ntmps144;go_wp2_with fail;go_loopw [7,8] (fun v u wr=>v= .int .i64 0/\u= .int .i64 20/\wr=w) (fun _ _ _=>0)
  case atStart=>exact⟨rfl,rfl,rfl⟩
  case round=>
   obtain⟨rfl,rfl,rfl⟩:=hrel;go_wp2_with fail;refine I.out.mono ?_;rintro e w1 ⟨rfl,rfl⟩;go_wp2_with fail;go_loopw [6] (fun v wr=>v= .int .i64 20/\wr=w1) (fun _ _=>0)
   case atStart=>exact⟨rfl,rfl⟩
   case round=>
    obtain⟨rfl,rfl⟩:=hrel;go_wp2_with fail
    go_end0
    exact⟨rfl,rfl⟩
 clear I;go_enter Tryz.func95,Tryz.ntmps95;go_wp2_with fail;refine S.out.mono ?_;rintro e w1 ⟨rfl,rfl⟩;go_wp2_with fail
 go_end0
 exact⟨rfl,rfl⟩
def Bx (ys:List aL)(n:Nat)(c:Int) :Nat:= ((cs (aI ys)).take n).count c
theorem GZ {ys:List aL}{n:Nat}{y:aL}(h:ys[n]? =some y)(c:Int) :Bx ys (n+1) c=if y.n.c=c then Bx ys n c+1 else Bx ys n c:=by
 unfold Bx;have hc: (cs (aI ys))[n]? =some y.n.c:=by unfold cs;rw[List.getElem?_map,gj h];rfl
 rw[List.take_add_one,hc];simp only[Option.toList_some,List.count_append,List.count_singleton];by_cases e:y.n.c=c
 ·simp[e]
 ·simp[e]
theorem Nt (ys:List aL)(n:Nat)(c:Int) :Bx ys n c<=n:=by
 unfold Bx;exact Nat.le_trans List.count_le_length (by rw[List.length_take];omega)
theorem JX {ys:List aL}{n:Nat}(h:ys.length=n)(c:Int) :Bx ys n c= (cs (aI ys)).count c:=by
 unfold Bx;rw[List.take_of_length_le (by unfold cs;rw[List.length_map,bg,h];exact ah)]
def PU (F:Value->Option Value)(ys:List aL)(n:Nat) :Prop:=∀c:Int,(F (.int .i64 c)).getD (.int .i64 0) = .int .i64 (Bx ys n c)
theorem PU.step {F:Value->Option Value}{ys:List aL}{n:Nat}(h:PU F ys n){y:aL}(hy:ys[n]? =some y) :PU (rW F (.int .i64 y.n.c) (.int .i64 ((Bx ys n y.n.c:Int) +1))) ys (n+1) :=fun c=>by
 rw[GZ hy];by_cases e:y.n.c=c
 ·subst e;rw[cP,if_pos rfl];simp
 ·rw[eV (fun h=>e (by injection h with _ h;exact h.symm)),if_neg e];exact h c
set_option maxRecDepth 100000 in
theorem tG (a:Option Addr)(n cap:Nat)(ys:List aL)(w:World)(ha:bY w a ys)(hl:ys.length=n)(hn:n<=1000000) :
 Calls Tryz.prog 98 #[.slice a n cap,.func (.func 90) #[] #[]] w fun e w'=>∃g N F,e= .returned (.map (some g))/\dP w' g (.int .i64) N F/\PU F ys n/\w.heap.size<=g/\Below w.heap.size w w':=by
 have HA:=ad ha;have HL:=ad hl;have NZ:=ad Bm;have NO:=ad Cm;have ZI:Hid ((Tryz.prog.info? 3).map (·.zero) =some (some (.int .i64 0))) :=by show _=_;kernel_rfl
 have UM:=ad Tryz.underlying171;have UK:=ad Tryz.underlying3;clear ha hl;go_enter Tryz.func98,Tryz.ntmps98;go_wp2_with (first| (refine bH rfl _ rfl (.int .i64) ?_;intro w1 m1 b1;have M1:=ad m1;have B1:=ad b1;have S1:=ad m1.lt;clear m1 b1));go_loopw [11] (fun i wr=>∃(j N:Nat) (F:Value->Option Value),i= .int .i64 j/\j<=n/\dP wr w.heap.size (.int .i64) N F/\PU F ys j/\Below w.heap.size w wr) (fun i _=>n- (intOf i).toNat)
 case atStart=>exact⟨0,0,_,rfl,Nat.zero_le _,M1.out,fun c=>rfl,B1.out⟩
 case round=>
  obtain⟨j,N,F,rfl,hj,hM,hF,hB⟩:=hrel;have HM:=ad hM;have HB:=ad hB;have HF:=ad hF;have W0:Hid (w.heap.size<wr.heap.size) :=hM.lt;clear hM hB hF;by_cases hjn:j<n
  ·have hlt:j<ys.length:=by rw[HL.out];exact hjn
   have hy:ys[j]? =some ys[j] :=List.getElem?_eq_getElem hlt;obtain⟨y,ey⟩:∃y,y=ys[j] :=⟨_,rfl⟩;rw[<- ey]at hy
   obtain⟨b,off,rfl,hb,hat⟩:∃b off,a=some ⟨b,off,none⟩/\b<w.heap.size/\cL w b off ys:=by
    rcases HA.out with h0|h
    ·simp[h0]at hlt
    ·exact h
   have hat':=hat.below HB.out hb;obtain⟨c0,c1,c2,c3,c4,c5⟩:=hat'.c hy;have FS:=ad (HF.out.step hy);have FQ:=ad (HF.out y.n.c);have CL:=Nt ys j y.n.c;obtain⟨M,hM⟩:=named (Bx ys j y.n.c);rw[<- hM.out]at FS FQ CL;clear hat hat' hy ey hlt hM;obtain⟨⟨k,p,m,t,d,c⟩,x,xc⟩:=y;obtain⟨L,hL⟩:=named d.length;have c4':wr.cell? ⟨b,off+j*6+4,none⟩=some (.slice x L xc) :=by rw[hL.out];exact c4
   have m1: (M:Int) +1<=1000001:=by omega
   have wm:IntKind.i64.wrap ((M:Int) +1) = (M:Int) +1:=jJ (by omega) (by omega);clear c4 hL CL;have j1: (j:Int) <n:=by omega
   have NB:Hid (b<w.heap.size) :=hb;clear hb hjn;go_wp2_with (first| (refine ag rfl 77 rfl (bq 0 emp 0 emp none 0 0 0) NZ.out ?_;intro w2 g2 b2;have G2:=ad g2;have M2:=ad (HM.out.below b2 HM.out.lt);have B2:=ad (HB.out.trans (b2.mono (Nat.le_of_lt W0.out)));have W2:=ad b2.size;clear g2 b2 c0 c1 c2 c3 c4' c5) | (refine ae rfl 77 _ _ rfl wr.heap.size rfl (bq k p m t x L xc c) (bq 0 emp 0 emp none 0 0 0) rfl 77 G2.out NO.out.2 rfl (bE _ _ _ _ _ _ _ _) ?_;intro w3 g3 t3;have G3:=ad g3;have M3:=ad (M2.out.block (t3.other (Nat.ne_of_lt W0.out)));have B3:=ad (B2.out.trans (t3.below (Nat.le_of_lt W0.out)));have W3:=ad (Nat.le_trans W2.out (Nat.le_of_eq t3.size.symm));have c0:=g3.get 0 rfl;have c1:=g3.get 1 rfl;have c2:=g3.get 2 rfl;have c3:=g3.get 3 rfl;have c4:=g3.get 4 rfl;have c5:=g3.get 5 rfl;clear g3 t3));refine(kF k p m t x L xc c w3).mono ?_;rintro e w4 ⟨rfl,b4⟩;have M4:=ad (M3.out.below b4 M3.out.lt);have B4:=ad (ar B3.out b4);clear b4 c0 c1 c2 c3 c4 c5;obtain⟨q1,q2⟩:=bI (P:=Tryz.prog) (w:=w4) 171 3 3 UM.out (.int .i64) UK.out (.int .i64 0) ZI.out w.heap.size N (.int .i64 c) (show IsKey (.int .i64) (.int .i64 c)from rfl) F M4.out;rw[FQ.out]at q2;clear q1;go_wp2_with (first| (refine cE rfl 171 _ _ _ rfl 3 3 UM.out (.int .i64) UK.out w.heap.size rfl (.int .i64 c) rfl (show IsKey (.int .i64) (.int .i64 c)from rfl) (.int .i64 ((M:Int) +1)) (by first|rfl| (show Value.int .i64 (wrap64 _) =_;rw[show wrap64 ((M:Int) +1) = (M:Int) +1 from wm])) N _ M4.out ?_;intro w6 m6 t6;have M6:=ad m6;have B6:=ad (B4.out.trans (t6.below ah));clear m6 t6))
   go_round
   case rel=>exact⟨j+1,_,_,by go_num,by omega,M6.out,FS.out,B6.out⟩
   case measure=>simp[intOf];omega
  ·obtain rfl:j=n:=by omega
   go_wp2;go_ret;exact⟨_,N,F,rfl,HM.out,HF.out,ah,HB.out⟩
end Go.Proofs.YtcjagakckffkiaaGreatDoor.Tre
namespace Go.Proofs.YtcjagakckffkiaaGreatDoor.Tre
open Go.RowKit Go.MapKept Go.Proofs.YtcjagakckffkiaaGreatDoor.Fit
theorem cL.setAt {w:World}{g off:Nat}{us:List aL}(h:cL w g off us){i:Nat}{y:aL}(hi:us[i]? =some y)(z:aL)(k:Nat)(v:Value)(hv: (fy z)[k]? =some v)
 (hk:∀j u,j≠k-> (fy z)[j]? =some u-> (fy y)[j]? =some u) :cL (w.setCell ⟨g,off+i*6+k,none⟩ v) g off (us.set i z) :=fun i' y' hi' j u hu=>by
 have hk6:k<6:=by have:= (List.getElem?_eq_some_iff.mp hv).1;simpa using this
 have hj6:j<6:=by have:= (List.getElem?_eq_some_iff.mp hu).1;simpa using this
 have hil:i<us.length:= (List.getElem?_eq_some_iff.mp hi).1;by_cases e:i'=i
 ·subst e;rw[List.getElem?_set_self hil]at hi';obtain rfl:=Option.some.inj hi';by_cases ej:j=k
  ·subst ej;obtain rfl:v=u:=Option.some.inj (hv.symm.trans hu);have hy:j< (fy y).length:=by simpa using hj6
   exact World.cell?_setCell_same (h:=h i' y hi j _ (List.getElem?_eq_getElem hy)) ..
  ·rw[World.cell?_setCell_other (h:=by intro h;injection h with _ h;omega) ..];exact h i' y hi j u (hk j u ej hu)
 ·rw[List.getElem?_set_ne (fun h=>e h.symm)]at hi';rw[World.cell?_setCell_other (h:=by intro h;injection h with _ h;omega) ..];exact h i' y' hi' j u hu
theorem AH (n:Nd)(a a':Option Addr)(c c':Nat) :∀j u,j≠4-> (fy ⟨n,a',c'⟩)[j]? =some u-> (fy ⟨n,a,c⟩)[j]? =some u:=by
 intro j u hj hu;rcases j with _|_|_|_|_|_|j
 ·exact hu
 ·exact hu
 ·exact hu
 ·exact hu
 ·exact absurd rfl hj
 ·exact hu
 ·simp at hu
theorem rE (n:Nd)(a:Option Addr)(c:Nat)(x:Int) :∀j u,j≠5-> (fy ⟨{n with c:=x},a,c⟩)[j]? =some u-> (fy ⟨n,a,c⟩)[j]? =some u:=by
 intro j u hj hu;rcases j with _|_|_|_|_|_|j
 ·exact hu
 ·exact hu
 ·exact hu
 ·exact hu
 ·exact hu
 ·exact absurd rfl hj
 ·simp at hu
theorem fG {w w':World}{g:Nat}(h:∀k,w.frozen? ⟨g,k,none⟩=false)(e:w'.heap[g]? =w.heap[g]?) :∀k,w'.frozen? ⟨g,k,none⟩=false:=fun k=>by
 have:=h k;unfold World.frozen? at this⊢;rw[e];exact this
section
variable {P:Program} {w:World} {ops:Array Oper} {rest:List Oper} {o:Oper} {a:Act} {Q:Exit->Act->World->Prop}
theorem bu (hgd:o.guard=none)(T:TypeId)(x y:Operand)(ho:o.op= .store T x y)(g q:Nat)(hx:a.eval x= .pointer (some ⟨g,q,none⟩))
 (v:Value)(hy:a.eval y=v)(h1:v.oneCell'=true)(hs: (P.info? T).map (·.size) =some 1)(us:List aL)(i k:Nat)(z z':aL)(hq:q=i*6+k)(hi:us[i]? =some z)(hat:cL w g 0 us)(hf:∀j,w.frozen? ⟨g,j,none⟩=false)
 (hv: (fy z')[k]? =some v)(hk:∀j u,j≠k-> (fy z')[j]? =some u-> (fy z)[j]? =some u)
 (K:∀w',cL w' g 0 (us.set i z')-> (∀j,w'.frozen? ⟨g,j,none⟩=false)->cX w w' g->wpList P ops Q rest (a.put o.dst undef) w') :wpList P ops Q (o::rest) a w:=by
 subst hq;have hk6:k< (fy z).length:=by have:= (List.getElem?_eq_some_iff.mp hv).1;simpa using this
 have hc:w.cell? ⟨g,i*6+k,none⟩=some (fy z)[k] :=by
  have:=hat i z hi k _ (List.getElem?_eq_getElem hk6);rw[Nat.zero_add]at this;exact this
 have hset:cL (w.setCell ⟨g,i*6+k,none⟩ v) g 0 (us.set i z') :=by
  have:=hat.setAt hi z' k v hv hk;rw[Nat.zero_add]at this;exact this
 refine wpList_plain hgd fun K' hK=>?_;have hv1:v.cells= #[v] :=by cases v<;>first|rfl| (simp[Value.oneCell']at h1)
 cases hq:P.info? T with
 |none=>simp[hq]at hs
 |some j=>
  have hj:j.size=1:=by simpa [hq]using hs
  have ha: (⟨g,i*6+k,none⟩:Addr).add 0=⟨g,i*6+k,none⟩:=dC g _ 0
  have hrun: (storeVar T ⟨g,i*6+k,none⟩ v).run P w= .ok () (w.setCell ⟨g,i*6+k,none⟩ v) :=by
   simp[storeVar,sizeOf,typeInfo,hq,hj,hv1,storeCells,run_store P w _ v _ h1,ha,hc,hf (i*6+k)]
  unfold Oper.wp execOp;simp only[ho,hx,hy,Instr.storeAt,Instr.sureAddr,Sem.run_bind,Sem.run_pure,Result.andThen_ok,hrun];exact hK _ _ (K _ hset (fun j=>by rw[World.frozen?_setCell];exact hf j) ⟨fun hB=>aF.setCell hB v,fun hk=>Below.heap_setCell _ _ _ _ hk,by simp[World.setCell]⟩)
end
def iq (B:Nat)(w:World)(y:aL) :Prop:=w.ownsRow B 5 1 (.slice y.a y.n.d.length y.cap) y.n.d.length (y.n.d.map (.int .u8))
structure Kp (C B g m:Nat) (w w':World) :Prop where
 fr:∀u,iq B w u->iq B w' u
 Fy:∀k,k<B->k≠g->k≠m->w'.heap[k]? =w.heap[k]?
 jV:Below C w w'
 sz:w.heap.size<=w'.heap.size
theorem Kp.refl (C B g m:Nat)(w:World) :Kp C B g m w w:=⟨fun _ h=>h,fun _ _ _ _=>rfl,aF,ah⟩
theorem Kp.trans {C B g m:Nat}{a b c:World}(h:Kp C B g m a b)(k:Kp C B g m b c) :Kp C B g m a c:=
 ⟨fun u hu=>k.fr u (h.fr u hu),fun i h1 h2 h3=> (k.Fy i h1 h2 h3).trans (h.Fy i h1 h2 h3),h.jV.trans k.jV,Nat.le_trans h.sz k.sz⟩
theorem Kp.aq {C B g m:Nat}{w w':World}(h:Below w.heap.size w w')(hB:B<=w.heap.size)(hC:C<=w.heap.size) :Kp C B g m w w':=
 ⟨fun _ hu=>cJ hu h ah,fun k hk _ _=>h.block k (by omega),h.mono hC,h.size⟩
theorem Kp.dS {C B g m:Nat}{w w':World}(h:cX w w' g)(hB:g<B)(hC:C<=g) :Kp C B g m w w':=
 ⟨fun _ hu=>bx hu h hB,fun _ _ h1 _=>h.other h1,h.below hC,Nat.le_of_eq h.size.symm⟩
theorem Kp.of_map {C B g m:Nat}{w w':World}(h:cX w w' m)(hB:m<B)(hC:C<=m) :Kp C B g m w w':=
 ⟨fun _ hu=>bx hu h hB,fun _ _ _ h2=>h.other h2,h.below hC,Nat.le_of_eq h.size.symm⟩
def zp (F:Value->Option Value)(S:List Int)(j:Nat) :Prop:=∀c:Int,F (.int .i64 c) =if c∈bX S j then some (.int .i64 (num S c))else none
theorem zp.stay {F:Value->Option Value}{S:List Int}{j:Nat}(h:zp F S j)(hj:j<S.length)(hn:¬dy S S[j]\/S[j]∈bX S j) :zp F S (j+1)/\bX S (j+1) =bX S j:=by
 have e:bX S (j+1) =bX S j:=by
  rw[gJ hj,if_neg];rintro⟨h1,h2⟩;exact hn.elim (fun h=>h h1) h2
 exact⟨fun c=>by rw[e];exact h c,e⟩
theorem zp.more {F:Value->Option Value}{S:List Int}{j:Nat}(h:zp F S j)(hj:j<S.length)(hm:dy S S[j])(hn:S[j]∉bX S j) :
 zp (rW F (.int .i64 S[j]) (.int .i64 (((bX S j).length:Int) +1))) S (j+1)/\ (bX S (j+1)).length= (bX S j).length+1:=by
 have e:bX S (j+1) =bX S j++ [S[j]] :=by rw[gJ hj,if_pos ⟨hm,hn⟩]
 refine⟨fun c=>?_,by rw[e];simp⟩;rw[e];by_cases ec:c=S[j]
 ·subst ec;rw[cP,if_pos (by simp),uW hj hm hn]
 ·rw[eV (fun h=>ec (by injection h)),h c];by_cases h1:c∈bX S j
  ·rw[if_pos h1,if_pos (by simp[h1])]
  ·rw[if_neg h1,if_neg (by simp[h1,ec])]
structure Pd (B:Nat) (zs us:List aL) (j:Nat) (w:World) :Prop where
 len:us.length=zs.length
 done:∀i z,i<j->zs[i]? =some z->∃u,us[i]? =some u/\u.n=mu (aI zs) z.n/\iq B w u
 rest:∀i,j<=i->us[i]? =zs[i]?
theorem Pd.next {C B g m:Nat}{zs us:List aL}{j:Nat}{w w':World}(h:Pd B zs us j w)(k:Kp C B g m w w'){z u:aL}(hz:zs[j]? =some z)(hu:u.n=mu (aI zs) z.n)(hf:iq B w' u)(vs:List aL)(hvl:vs.length=us.length)(hvj:vs[j]? =some u)(hvo:∀i,i≠j->vs[i]? =us[i]?) :Pd B zs vs (j+1) w':=by
 refine⟨hvl.trans h.len,fun i y hi hy=>?_,fun i hi=>by rw[hvo i (by omega)];exact h.rest i (by omega)⟩;by_cases e:i=j
 ·subst e;obtain rfl:z=y:=Option.some.inj (hz.symm.trans hy);exact⟨u,hvj,hu,hf⟩
 ·obtain⟨v,h1,h2,h3⟩:=h.done i y (by omega) hy;exact⟨v,(hvo i e).trans h1,h2,k.fr v h3⟩
theorem Pd.end_ {B:Nat}{zs us:List aL}{w:World}(h:Pd B zs us zs.length w) :aI us= (aI zs).map (mu (aI zs))/\∀u∈us,iq B w u/\∃z∈zs,u.n=mu (aI zs) z.n:=by
 constructor
 ·refine List.ext_getElem? fun i=>?_;by_cases hi:i<zs.length
  ·have hz:zs[i]? =some zs[i] :=List.getElem?_eq_getElem hi;obtain⟨u,h1,h2,_⟩:=h.done i _ hi hz;rw[gj h1,List.getElem?_map,gj hz,h2];rfl
  ·rw[List.getElem?_eq_none (by rw[bg,h.len];omega),List.getElem?_eq_none (by rw[List.length_map,bg];omega)]
 ·intro u hu;obtain⟨i,hi,rfl⟩:=List.getElem_of_mem hu;have hl:i<zs.length:=by rw[<- h.len];exact hi
  obtain⟨v,h1,h2,h3⟩:=h.done i _ hl (List.getElem?_eq_getElem hl);obtain rfl:us[i] =v:=Option.some.inj ((List.getElem?_eq_getElem hi).symm.trans h1);exact⟨h3,_,List.getElem_mem hl,h2⟩
theorem su.fresh {B:Nat}{w w0:World}{z u:aL}{S:List Nd}(h:su w0 z)(e:u.n=mu S z.n)(hf:iq B w u)(hn:num (cs S) z.n.c<=1759218604441) :su w u:=by
 obtain⟨un,ua,uc⟩:=u;obtain rfl:un=mu S z.n:=e;obtain⟨b,cap,hv,hi,hc,hm,hl,hx⟩:=bl hf;injection hv with e1 _ e3;obtain rfl:ua=b:=e1;obtain rfl:uc=cap:=e3;refine⟨h.k,h.p,h.m,h.t,⟨rfl,hc,hm,h.d.2.2.2.1,?_⟩,h.l,?_⟩
 ·rcases Nat.eq_zero_or_pos z.n.d.length with h0|h0
  ·exact .inl h0
  ·obtain⟨b',off,rfl,hlt⟩:=hi.plain h0;exact .inr ⟨b',off,rfl,hlt,fun i hi'=>hi.get i hi'⟩
 ·have:=num_nonneg (cs S) z.n.c;show(Lit.int .i64 (num (cs S) z.n.c)).wf=true;have hn':=hn;have e1:IntKind.i64.min= -9223372036854775808:=by decide
  have e2:IntKind.i64.max=9223372036854775807:=by decide
  simp[Lit.wf];omega
theorem zK (l:List Int) : (cls l).length<=l.length:=by
 unfold cls
 have h:∀(t s:List Int),(dd s t).length<=s.length+t.length:=by
  intro t
  induction t with
  |nil=>intro s;exact ah
  |cons c t ih=>
   intro s;unfold dd;have:=ih (if c∈s then s else s++ [c]);rw[List.length_cons];by_cases e:c∈s
   ·rw[if_pos e]at this⊢;omega
   ·rw[if_neg e]at this⊢;rw[List.length_append,List.length_singleton]at this;omega
 have h3:=h (l.filter fun c=>decide (dy l c)) [];have h4: (l.filter fun c=>decide (dy l c)).length<=l.length:=List.length_filter_le _ _;simp only[List.length_nil,Nat.zero_add]at h3;omega
theorem xf {l:List Int}{n:Nat}(hn:n<=l.length) : (bX l n).length<=l.length:=by
 obtain⟨r,hr⟩:=wD (l:=l) hn ah;have h:=zK l;rw[<- ri,hr,List.length_append]at h;omega
theorem Dx (l:List Int)(c:Int) :num l c<=l.length:=by
 unfold num
 split
 ·rename_i h;have h1: (cls l).idxOf c< (cls l).length:=List.idxOf_lt_length_iff.mpr (mX.mpr h);have h2:=zK l;omega
 ·omega
end Go.Proofs.YtcjagakckffkiaaGreatDoor.Tre
