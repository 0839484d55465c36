import Derived.Test.YtcjagakckffkiaaGreatDoorQ9
import Derived.Test.YtcjagakckffkiaaGreatDoorQ1
import Derived.Test.YtcjagakckffkiaaGreatDoorQ13
import Derived.Test.YtcjagakckffkiaaGreatDoorQ6
import Derived.Test.YtcjagakckffkiaaGreatDoorQ11
set_option maxHeartbeats 16000000
namespace Go.Proofs.YtcjagakckffkiaaGreatDoor.bL
open Go.RowKit
def AW:Array Field:= #[{name:= "Key",type:=9,offset:=0,embedded:=false,tag:= "",pkgPath:= "",byteOffset:=0},{name:= "Value",type:=9,offset:=1,embedded:=false,tag:= "",pkgPath:= "",byteOffset:=16}]
end Go.Proofs.YtcjagakckffkiaaGreatDoor.bL
namespace Go.Proofs.YtcjagakckffkiaaGreatDoor.Fit
open Go.RowKit bL Pnm
theorem GS (k v k' v':ByteArray)(w:World) :
 (Op.equalIn 10000 202 (.agg #[.string k,.string v]) (.agg #[.string k',.string v'])).run Tryz.prog w= .ok (decide (k=k'/\v=v')) w:=by
 have ht:=Tryz.underlying202;have hf:Tryz.prog.fieldsOf 202=AW:=by unfold Program.fieldsOf;rw[ht];rfl
 rw[run_equalIn_struct w 9999 202 _ _ (by rw[hf];exact ht) (by kernel_rfl),hf];have u9:=Tryz.underlying9;by_cases h1:k=k'
 ·subst h1;by_cases h2:v=v'
  ·subst h2;simp[AW,Op.eqFields,part,isAgg,u9,go_sem]
  ·have:=ch h2;simp[AW,Op.eqFields,part,isAgg,u9,h2,this,go_sem]
 ·have:=ch h1;simp[AW,Op.eqFields,part,isAgg,u9,h1,this,go_sem]
def gK:Array Field:= #[{name:= "Kind",type:=3,offset:=0,embedded:=false,tag:= "",pkgPath:= "",byteOffset:=0},{name:= "Path",type:=9,offset:=1,embedded:=false,tag:= "",pkgPath:= "",byteOffset:=8},
 {name:= "Mode",type:=3,offset:=2,embedded:=false,tag:= "",pkgPath:= "",byteOffset:=24},{name:= "Target",type:=9,offset:=3,embedded:=false,tag:= "",pkgPath:= "",byteOffset:=32},
 {name:= "Size",type:=2,offset:=4,embedded:=false,tag:= "",pkgPath:= "",byteOffset:=48}]
theorem zD (k:Int)(p:ByteArray)(m:Int)(t:ByteArray)(s:Int)(k':Int)(p':ByteArray)(m':Int)(t':ByteArray)(s':Int)(w:World) :
 (Op.equalIn 10000 68 (.agg (aR k p m t s).toArray) (.agg (aR k' p' m' t' s').toArray)).run Tryz.prog w= .ok (decide (k=k'/\p=p'/\m=m'/\t=t'/\s=s')) w:=by
 have ht:=Tryz.underlying68;have hf:Tryz.prog.fieldsOf 68=gK:=by unfold Program.fieldsOf;rw[ht];rfl
 rw[run_equalIn_struct w 9999 68 _ _ (by rw[hf];exact ht) (by kernel_rfl),hf];have u9:=Tryz.underlying9;have u3:=Tryz.underlying3;have u2:=Tryz.underlying2;by_cases h1:k=k'
 ·subst h1;by_cases h2:p=p'
  ·subst h2;by_cases h3:m=m'
   ·subst h3;by_cases h4:t=t'
    ·subst h4;by_cases h5:s=s'
     ·subst h5;simp[gK,Op.eqFields,part,isAgg,u9,u3,u2,go_sem]
     ·simp[gK,Op.eqFields,part,isAgg,u9,u3,u2,h5,go_sem]
    ·have:=ch h4;simp[gK,Op.eqFields,part,isAgg,u9,u3,u2,h4,this,go_sem]
   ·simp[gK,Op.eqFields,part,isAgg,u9,u3,u2,h3,go_sem]
  ·have:=ch h2;simp[gK,Op.eqFields,part,isAgg,u9,u3,u2,h2,this,go_sem]
 ·simp[gK,Op.eqFields,part,isAgg,u9,u3,u2,h1,go_sem]
theorem Px {rs qs:List Rec}{j:Nat}{r q:Rec}(h1:rs[j]? =some r)(h2:qs[j]? =some q)(hne:¬(r.1=q.1/\r.2=q.2)) :decide (rs=qs) =false:=by
 rw[decide_eq_false_iff_not];rintro rfl;rw[h1]at h2
 cases h2
 exact hne ⟨rfl,rfl⟩
theorem OR {rs qs:List Rec}{n:Nat}(h1:rs.length=n)(h2:qs.length=n)(h:∀i,i<n->rs[i]? =qs[i]?) :decide (rs=qs) =true:=by
 rw[decide_eq_true_eq];refine List.ext_getElem? fun i=>?_;by_cases hi:i<n
 ·exact h i hi
 ·rw[List.getElem?_eq_none (by omega),List.getElem?_eq_none (by omega)]
set_option maxRecDepth 100000 in
theorem Jo (a:Option Addr)(n c:Nat)(b:Option Addr)(m d:Nat)(rs qs:List Rec)(w:World)(hn:rs.length=n)(hm:qs.length=m)(hA:bS w a rs)(hB:bS w b qs)(h9:n<=1000000000) :
 Calls Tryz.prog 113 #[.slice a n c,.slice b m d] w fun e w'=>e= .returned (.bool (decide (rs=qs)))/\Below w.heap.size w w':=by
 by_cases hnm:n=m
 ·subst hnm;obtain⟨R,hR⟩:=named (decide (rs=qs));rw[<- hR.out];have HA:=ad hA;have HB:=ad hB;have HN:=ad hn;have HM:=ad hm;have hq:∀k v k' v' w,(Op.equalIn 10000 202 (.agg #[.string k,.string v]) (.agg #[.string k',.string v'])).run Tryz.prog w= .ok (decide (k=k'/\v=v')) w:=fun k v k' v' w=>GS k v k' v' w;have HQ:=ad hq;have hg:Tryz.prog.eqGuardType Tryz.prog.depth 202=false:=by kernel_rfl
  clear hA hB hn hm hq;go_enter Tryz.func113,Tryz.ntmps113;go_wp2;go_loopw [13] (fun i wr=>∃j:Nat,i= .int .i64 j/\j<=n/\ (∀q,q<j->rs[q]? =qs[q]?)/\Below w.heap.size w wr) (fun i _=>n- (intOf i).toNat)
  case atStart=>exact⟨0,rfl,Nat.zero_le _,fun q hq=>by omega,aF⟩
  case round=>
   obtain⟨j,rfl,hj,hd,hb⟩:=hrel;have HL:=ad hb;have HD:=ad hd;clear hb hd;by_cases hjn:j<n
   ·obtain⟨r,hr⟩:=get_some (show j<rs.length by rw[HN.out];exact hjn);obtain⟨q,hq⟩:=get_some (show j<qs.length by rw[HM.out];exact hjn);obtain⟨K,D⟩:=r;obtain⟨K',D'⟩:=q;obtain⟨b1,o1,rfl,_,c0',c1'⟩:= (HA.out.below HL.out).get j _ hr;obtain⟨b2,o2,rfl,_,d0',d1'⟩:= (HB.out.below HL.out).get j _ hq;have c0:wr.cell? ⟨b1,o1+j*2,none⟩=some (.string K) :=c0';have c1:wr.cell? ⟨b1,o1+j*2+1,none⟩=some (.string D) :=c1';have d0:wr.cell? ⟨b2,o2+j*2,none⟩=some (.string K') :=d0';have d1:wr.cell? ⟨b2,o2+j*2+1,none⟩=some (.string D') :=d1';have j1: (j:Int) <n:=by omega
    have HR0:=ad hr;have HQ0:=ad hq;clear c0' c1' d0' d1' hr hq hjn;by_cases he:K=K'/\D=D'
    ·obtain⟨rfl,rfl⟩:=he;have hq1:∀w,(Op.equalIn 10000 202 (.agg #[.string K,.string D]) (.agg #[.string K,.string D])).run Tryz.prog w= .ok true w:=fun w=>by rw[HQ.out];simp
     go_wp2_with fail;go_quiet (fail);go_wp2;go_roundw
     case rel=>exact⟨j+1,by go_num,by omega,fun q hq=>by
      by_cases h':q<j
      ·exact HD.out q h'
      ·obtain rfl:q=j:=by omega
       rw[HR0.out,HQ0.out],HL.out.trans (aO _ _ _)⟩
     case measure=>simp[intOf];omega
    ·have hq1:∀w,(Op.equalIn 10000 202 (.agg #[.string K,.string D]) (.agg #[.string K',.string D'])).run Tryz.prog w= .ok false w:=fun w=>by rw[HQ.out,decide_eq_false he]
     have e:=hR.out;rw[Px HR0.out HQ0.out he]at e;subst e;clear hR;clear he;go_wp2_with fail;go_quiet (fail);go_wp2;go_ret;exact⟨rfl,HL.out.trans (aO _ _ _)⟩
   ·obtain rfl:j=n:=by omega
    have j1:¬(j:Int) <j:=by omega
    have e:=hR.out;rw[OR HN.out HM.out HD.out]at e;subst e;clear hR;clear hjn;go_wp2;go_ret;exact⟨rfl,HL.out⟩
 ·have e:decide (rs=qs) =false:=by rw[decide_eq_false_iff_not];rintro rfl;omega
  rw[e];have n1: ((n:Int) == (m:Int)) =false:=by simp;omega
  have n2: ((n:Int) != (m:Int)) =true:=by simp;omega
  clear hn hm hA hB e hnm;go_enter Tryz.func113,Tryz.ntmps113;go_wp2;go_ret;exact⟨rfl,aF⟩
end Go.Proofs.YtcjagakckffkiaaGreatDoor.Fit
namespace Go.Proofs.YtcjagakckffkiaaGreatDoor.Fit
open Go.RowKit bL Pnm
def Mg (H:Hd)(rs:List Rec)(x:dY)(E:Int) :Prop:= (oR H rs/\x=lr H rs/\E=0)\/ (¬oR H rs/\x=⟨0,emp,0,emp,0⟩/\E=if rs= []then 6 else 17)
def Qu (H:Hd)(rs:List Rec)(w:World)(e:Ending)(w':World) :Prop:=∃(x:dY) (E:Int),e= .returned (.tuple #[.agg (aR x.k x.p x.m x.t x.s).toArray,.int .i64 E])/\Mg H rs x E/\Below w.heap.size w w'
theorem rF:∀(rs:List Rec) (x:dY) (B:Nat),(∀r∈rs,r.2.size<=B)->x.p.size<=B->x.t.size<=B-> (rs.foldl jx x).p.size<=B/\ (rs.foldl jx x).t.size<=B
 | [],_,_,_,h1,h2=>⟨h1,h2⟩
 |r::rs,x,B,h,h1,h2=>by
  have hr:=h r List.mem_cons_self;refine rF rs (jx x r) B (fun q hq=>h q (List.mem_cons_of_mem _ hq)) ?_ ?_
  ·unfold jx;split
   ·exact h1
   ·split
    ·exact hr
    ·split<;>exact h1
  ·unfold jx;split
   ·exact hr
   ·split
    ·exact h2
    ·split<;>exact h2
theorem DC (a b:List Int) : (jO a b).length<=a.length+b.length+1:=by
 unfold jO;split
 ·omega
 ·rw[List.length_append,List.length_cons];omega
theorem IC (zs:List Int) : (strOfNums zs).size=zs.length:=by
 rw[Lib.size_eq,strOfNums_data,List.length_map]
theorem Co {H:Hd}{rs:List Rec}(h1:H.nm.size<=1000000)(h2:H.pf.size<=1000000)(h3:H.lk.size<=281474976710656)(hv:∀r∈rs,r.2.size<=281474976710656) : (lr H rs).p.size<=maxLen/\ (lr H rs).t.size<=maxLen:=by
 have hj: (Cp H).p.size<=281474976710656:=by
  show(strOfNums (jO (af H.pf) (af H.nm))).size<=_;rw[IC];have:=DC (af H.pf) (af H.nm);rw[an,an]at this;omega
 obtain⟨a,b⟩:=rF rs (Cp H) 281474976710656 hv hj h3;unfold maxLen;exact⟨Nat.le_trans a (by decide),Nat.le_trans b (by decide)⟩
theorem MH {H:Hd}{rs:List Rec}{x:dY}(hx:x=lr H rs) :oR H rs↔dn x=0/\ ((il x).T=H.T/\ (il x).nm=H.nm/\ (il x).pf=H.pf/\ (il x).lk=H.lk/\ (il x).md=H.md/\ (il x).sz=H.sz)/\ur x=rs:=by
 subst hx;unfold oR;constructor
 ·rintro⟨a,b,c⟩;obtain⟨e1,e2⟩:=jq a;rw[e1,e2];exact⟨a,by rw[b];exact⟨rfl,rfl,rfl,rfl,rfl,rfl⟩,c⟩
 ·rintro⟨a,b,c⟩;obtain⟨e1,e2⟩:=jq a;rw[e1]at b;rw[e2]at c;refine⟨a,?_,c⟩;generalize gr (lr H rs) =G at b
  cases G;cases H
  dsimp only at b;obtain⟨rfl,rfl,rfl,rfl,rfl,rfl⟩:=b;rfl
set_option maxRecDepth 100000 in
theorem tO (T:Int)(nm pf lk:ByteArray)(md sz:Int)(a:Option Addr)(n c:Nat)(rs:List Rec)(w:World)(V:fb w)(hnm:nm.size<=1000000)(hpf:pf.size<=1000000)(hlk:lk.size<=281474976710656)
 (hv:∀r∈rs,r.2.size<=281474976710656)(hn:rs.length=n)(hR:bS w a rs)(hN:n<=1000000) :
 Calls Tryz.prog 65 #[.agg (Ust.bA T nm pf lk md sz).toArray,.slice a n c] w (Qu ⟨T,nm,pf,lk,md,sz⟩ rs w) :=by
 have HO:=ad mJ;have EO:=ad Bt;have HZ:=ad BU;have EZ:=ad Km;have CM:=ad fun w' (hb:Below w.heap.size w w') =>Du T nm pf lk md sz a n c rs w' (V.go hb) hnm hpf hv hn (hR.below hb) hN;have SZ:=ad (Co (H:=⟨T,nm,pf,lk,md,sz⟩) hnm hpf hlk hv);have HV:=ad V;have HN:=ad hn;have HR:=ad hR;have HNN:=ad hN;have gH:Tryz.prog.eqGuardType Tryz.prog.depth 130=false:=by kernel_rfl
 clear V hnm hpf hlk hv hn hR hN;go_enter Tryz.func65,Tryz.ntmps65;go_wp2_with (first| (refine aj rfl 130 _ rfl (Ust.bA T nm pf lk md sz) rfl ?_;intro w1 g1 b1;have H1:=ad g1;have B1:=ad b1;clear g1 b1) | (refine ag rfl 68 rfl (aR 0 emp 0 emp 0) EZ.out ?_;intro w2 g2 b2;have Q2:=ad g2;have H2:=ad (H1.out.below b2 H1.out.lt);have B2:=ad (ar B1.out b2);have c0:=H2.out.get 0 rfl;have c1:=H2.out.get 1 rfl;have c2:=H2.out.get 2 rfl;have c3:=H2.out.get 3 rfl;have c4:=H2.out.get 4 rfl;have c5:=H2.out.get 5 rfl;clear g2 b2));refine(CM.out w2 B2.out).mono ?_;rintro e w3 ⟨x,rfl,hx,b3⟩;have HX:=ad hx;have PS:Hid (x.p.size<=maxLen/\x.t.size<=maxLen) :=by have:=SZ.out;rwa [<- hx]at this
 have MG:=ad (MH (H:=⟨T,nm,pf,lk,md,sz⟩) hx);dsimp only at MG;have H3:=ad (H2.out.below b3 H2.out.lt);have Q3:=ad (Q2.out.below b3 Q2.out.lt);have B3:=ad (ar B2.out b3);have LW:Hid (w.heap.size<=w1.heap.size) :=B1.out.size;obtain⟨xk,xp,xm,xt,xs⟩:=x;clear b3 hx c0 c1 c2 c3 c4 c5 CM SZ;have PL:=ad fun w' (hb:Below w.heap.size w w') =>oW ⟨xk,xp,xm,xt,xs⟩ w' (HV.out.go hb).f PS.out.1 PS.out.2;have HL:=ad (show(ur ⟨xk,xp,xm,xt,xs⟩).length<=3 by unfold ur;split;exact OV _;decide);unfold CG at PL;obtain⟨T',hT'⟩:=named (il ⟨xk,xp,xm,xt,xs⟩).T;obtain⟨nm',hnm'⟩:=named (il ⟨xk,xp,xm,xt,xs⟩).nm;obtain⟨pf',hpf'⟩:=named (il ⟨xk,xp,xm,xt,xs⟩).pf;obtain⟨lk',hlk'⟩:=named (il ⟨xk,xp,xm,xt,xs⟩).lk;obtain⟨md',hmd'⟩:=named (il ⟨xk,xp,xm,xt,xs⟩).md;obtain⟨sz',hsz'⟩:=named (il ⟨xk,xp,xm,xt,xs⟩).sz;obtain⟨L',hL'⟩:=named (ur ⟨xk,xp,xm,xt,xs⟩);obtain⟨E',hE'⟩:=named (dn ⟨xk,xp,xm,xt,xs⟩);rw[<- hT'.out,<- hnm'.out,<- hpf'.out,<- hlk'.out,<- hmd'.out,<- hsz'.out,<- hL'.out,<- hE'.out]at PL;rw[<- hT'.out,<- hnm'.out,<- hpf'.out,<- hlk'.out,<- hmd'.out,<- hsz'.out,<- hL'.out,<- hE'.out]at MG;rw[<- hL'.out]at HL;clear hT' hnm' hpf' hlk' hmd' hsz' hL' hE';go_wp2_with (first| (refine ag rfl 68 rfl (aR 0 emp 0 emp 0) EZ.out ?_;intro w4 g4 b4;have R4:=ad g4;have A4:=ad b4;clear g4 b4) | (refine ae rfl 68 _ _ rfl w3.heap.size rfl (aR xk xp xm xt xs) (aR 0 emp 0 emp 0) rfl 68 R4.out EO.out.2 rfl (bt _ _ _ _ _) ?_;intro w5 g5 t5;have X5:=ad g5;have A5:=ad (A4.out.trans (t5.below ah));have H5:=ad (H3.out.below A5.out H3.out.lt);have Q5:=ad (Q3.out.below A5.out Q3.out.lt);have B5:=ad (ar B3.out A5.out);have e0:=X5.out.get 0 rfl;have e1:=X5.out.get 1 rfl;have e2:=X5.out.get 2 rfl;have e3:=X5.out.get 3 rfl;have e4:=X5.out.get 4 rfl;clear g5 t5));refine(PL.out w5 B5.out).mono ?_;rintro e w6 ⟨b,n',c',rfl,hn',hc',hm',hR',b6⟩;have H6:=ad (H5.out.below b6 H5.out.lt);have Q6:=ad (Q5.out.below b6 Q5.out.lt);have X6:=ad (X5.out.below b6 X5.out.lt);have B6:=ad (ar B5.out b6);have I6:=ad hR';have HN':=ad hn';clear b6 hR' hn' hc' hm' e0 e1 e2 e3 e4 PL;have QH:=ad fun(w':World) =>Ust.zy 130 Tryz.underlying130 (by kernel_rfl) T' nm' pf' lk' md' sz' T nm pf lk md sz w';by_cases hE:E'=0
 ·subst hE;by_cases hH:T'=T/\nm'=nm/\pf'=pf/\lk'=lk/\md'=md/\sz'=sz
  ·have qH:=QH.out;simp only[decide_eq_true hH]at qH;have HHd:=ad hH;clear hH;have EQ:=ad fun(w':World) (hr:bS w' b L') (hb:Below w.heap.size w w') =>Jo b n' c' a n c L' rs w' HN'.out HN.out hr (HR.out.below hb) (by have:=HL.out;have:=HN'.out;omega);go_wp2_with (first| (refine ag rfl 130 rfl Ust.cr HZ.out ?_;intro w7 g7 b7;have R7:=ad g7;have A7:=ad b7;clear g7 b7) | (refine ae rfl 130 _ _ rfl w6.heap.size rfl (Ust.bA T' nm' pf' lk' md' sz') Ust.cr rfl 130 R7.out HO.out.2 rfl (aY _ _ _ _ _ _) ?_;intro w8 g8 t8;have A8:=ad (A7.out.trans (t8.below ah));have Y8:=ad g8;have H8:=ad (H6.out.below A8.out H6.out.lt);have Q8:=ad (Q6.out.below A8.out Q6.out.lt);have X8:=ad (X6.out.below A8.out X6.out.lt);have I8:=ad (I6.out.below A8.out);have B8:=ad (ar B6.out A8.out);have d0:=Y8.out.get 0 rfl;have d1:=Y8.out.get 1 rfl;have d2:=Y8.out.get 2 rfl;have d3:=Y8.out.get 3 rfl;have d4:=Y8.out.get 4 rfl;have d5:=Y8.out.get 5 rfl;have c0:=H8.out.get 0 rfl;have c1:=H8.out.get 1 rfl;have c2:=H8.out.get 2 rfl;have c3:=H8.out.get 3 rfl;have c4:=H8.out.get 4 rfl;have c5:=H8.out.get 5 rfl;have e0:=X8.out.get 0 rfl;have e1:=X8.out.get 1 rfl;have e2:=X8.out.get 2 rfl;have e3:=X8.out.get 3 rfl;have e4:=X8.out.get 4 rfl;clear g8 t8));refine(EQ.out w8 I8.out B8.out).mono ?_;rintro e w9 ⟨rfl,b9⟩;have Q9:=ad (Q8.out.below b9 Q8.out.lt);have X9:=ad (X8.out.below b9 X8.out.lt);have B9:=ad (ar B8.out b9);clear b9 c0 c1 c2 c3 c4 c5 d0 d1 d2 d3 d4 d5 e0 e1 e2 e3 e4 qH EQ;by_cases hL:L'=rs
   ·rw[decide_eq_true hL];have OKM:Hid (oR ⟨T,nm,pf,lk,md,sz⟩ rs) :=MG.out.2 ⟨by first|rfl|trivial,HHd.out,hL⟩;clear hL;have e0:=X9.out.get 0 rfl;have e1:=X9.out.get 1 rfl;have e2:=X9.out.get 2 rfl;have e3:=X9.out.get 3 rfl;have e4:=X9.out.get 4 rfl;go_wp2_with (first| (refine ae rfl 68 _ _ rfl w1.heap.size rfl (aR xk xp xm xt xs) (aR 0 emp 0 emp 0) rfl 68 Q9.out EO.out.2 rfl (bt _ _ _ _ _) ?_;intro y1 gy ty;have QY:=ad gy;have TY:=ad ty;clear gy ty));exact bodyPost_ret (aH Tryz.results65 EO.out _ w1.heap.size rfl _ (aR xk xp xm xt xs) QY.out rfl) rfl ⟨⟨xk,xp,xm,xt,xs⟩,0,rfl,.inl ⟨OKM.out,HX.out,rfl⟩,B9.out.trans (TY.out.below LW.out)⟩
   ·rw[decide_eq_false hL];have HB:Hid (¬oR ⟨T,nm,pf,lk,md,sz⟩ rs) :=fun h=>hL (MG.out.1 h).2.2;have HB0:=HB;clear HB hL;by_cases h0:0<n
    ·have n1: (0:Int) <n:=by omega
     go_wp2_with (first| (refine ae rfl 68 _ _ rfl w1.heap.size rfl (aR 0 emp 0 emp 0) (aR 0 emp 0 emp 0) rfl 68 Q9.out EO.out.2 rfl (bt _ _ _ _ _) ?_;intro y1 gy ty;have QY:=ad gy;have TY:=ad ty;clear gy ty));exact bodyPost_ret (aH Tryz.results65 EO.out _ w1.heap.size rfl _ (aR 0 emp 0 emp 0) QY.out rfl) rfl ⟨⟨0,emp,0,emp,0⟩,17,rfl,.inr ⟨HB0.out,rfl,by rw[if_neg];rintro rfl;have:=HN.out;simp at this;omega⟩,B9.out.trans (TY.out.below LW.out)⟩
    ·have n1:¬(0:Int) <n:=by omega
     go_wp2_with (first| (refine ae rfl 68 _ _ rfl w1.heap.size rfl (aR 0 emp 0 emp 0) (aR 0 emp 0 emp 0) rfl 68 Q9.out EO.out.2 rfl (bt _ _ _ _ _) ?_;intro y1 gy ty;have QY:=ad gy;have TY:=ad ty;clear gy ty));exact bodyPost_ret (aH Tryz.results65 EO.out _ w1.heap.size rfl _ (aR 0 emp 0 emp 0) QY.out rfl) rfl ⟨⟨0,emp,0,emp,0⟩,6,rfl,.inr ⟨HB0.out,rfl,by rw[if_pos];exact List.length_eq_zero_iff.1 (by have:=HN.out;omega)⟩,B9.out.trans (TY.out.below LW.out)⟩
  ·have qH:=QH.out;simp only[decide_eq_false hH]at qH;have HB:Hid (¬oR ⟨T,nm,pf,lk,md,sz⟩ rs) :=fun h=>hH (MG.out.1 h).2.1;have HB0:=HB;clear HB hH;by_cases h0:0<n
   ·have n1: (0:Int) <n:=by omega
    go_wp2_with (first| (refine ag rfl 130 rfl Ust.cr HZ.out ?_;intro w7 g7 b7;have R7:=ad g7;have A7:=ad b7;clear g7 b7) | (refine ae rfl 130 _ _ rfl w6.heap.size rfl (Ust.bA T' nm' pf' lk' md' sz') Ust.cr rfl 130 R7.out HO.out.2 rfl (aY _ _ _ _ _ _) ?_;intro w8 g8 t8;have A8:=ad (A7.out.trans (t8.below ah));have Y8:=ad g8;have H8:=ad (H6.out.below A8.out H6.out.lt);have Q8:=ad (Q6.out.below A8.out Q6.out.lt);have X8:=ad (X6.out.below A8.out X6.out.lt);have I8:=ad (I6.out.below A8.out);have B8:=ad (ar B6.out A8.out);have d0:=Y8.out.get 0 rfl;have d1:=Y8.out.get 1 rfl;have d2:=Y8.out.get 2 rfl;have d3:=Y8.out.get 3 rfl;have d4:=Y8.out.get 4 rfl;have d5:=Y8.out.get 5 rfl;have c0:=H8.out.get 0 rfl;have c1:=H8.out.get 1 rfl;have c2:=H8.out.get 2 rfl;have c3:=H8.out.get 3 rfl;have c4:=H8.out.get 4 rfl;have c5:=H8.out.get 5 rfl;have e0:=X8.out.get 0 rfl;have e1:=X8.out.get 1 rfl;have e2:=X8.out.get 2 rfl;have e3:=X8.out.get 3 rfl;have e4:=X8.out.get 4 rfl;clear g8 t8) | (refine ae rfl 68 _ _ rfl w1.heap.size rfl (aR 0 emp 0 emp 0) (aR 0 emp 0 emp 0) rfl 68 Q8.out EO.out.2 rfl (bt _ _ _ _ _) ?_;intro y1 gy ty;have QY:=ad gy;have TY:=ad ty;clear gy ty));exact bodyPost_ret (aH Tryz.results65 EO.out _ w1.heap.size rfl _ (aR 0 emp 0 emp 0) QY.out rfl) rfl ⟨⟨0,emp,0,emp,0⟩,17,rfl,.inr ⟨HB0.out,rfl,by rw[if_neg];rintro rfl;have:=HN.out;simp at this;omega⟩,B8.out.trans (TY.out.below LW.out)⟩
   ·have n1:¬(0:Int) <n:=by omega
    go_wp2_with (first| (refine ag rfl 130 rfl Ust.cr HZ.out ?_;intro w7 g7 b7;have R7:=ad g7;have A7:=ad b7;clear g7 b7) | (refine ae rfl 130 _ _ rfl w6.heap.size rfl (Ust.bA T' nm' pf' lk' md' sz') Ust.cr rfl 130 R7.out HO.out.2 rfl (aY _ _ _ _ _ _) ?_;intro w8 g8 t8;have A8:=ad (A7.out.trans (t8.below ah));have Y8:=ad g8;have H8:=ad (H6.out.below A8.out H6.out.lt);have Q8:=ad (Q6.out.below A8.out Q6.out.lt);have X8:=ad (X6.out.below A8.out X6.out.lt);have I8:=ad (I6.out.below A8.out);have B8:=ad (ar B6.out A8.out);have d0:=Y8.out.get 0 rfl;have d1:=Y8.out.get 1 rfl;have d2:=Y8.out.get 2 rfl;have d3:=Y8.out.get 3 rfl;have d4:=Y8.out.get 4 rfl;have d5:=Y8.out.get 5 rfl;have c0:=H8.out.get 0 rfl;have c1:=H8.out.get 1 rfl;have c2:=H8.out.get 2 rfl;have c3:=H8.out.get 3 rfl;have c4:=H8.out.get 4 rfl;have c5:=H8.out.get 5 rfl;have e0:=X8.out.get 0 rfl;have e1:=X8.out.get 1 rfl;have e2:=X8.out.get 2 rfl;have e3:=X8.out.get 3 rfl;have e4:=X8.out.get 4 rfl;clear g8 t8) | (refine ae rfl 68 _ _ rfl w1.heap.size rfl (aR 0 emp 0 emp 0) (aR 0 emp 0 emp 0) rfl 68 Q8.out EO.out.2 rfl (bt _ _ _ _ _) ?_;intro y1 gy ty;have QY:=ad gy;have TY:=ad ty;clear gy ty));exact bodyPost_ret (aH Tryz.results65 EO.out _ w1.heap.size rfl _ (aR 0 emp 0 emp 0) QY.out rfl) rfl ⟨⟨0,emp,0,emp,0⟩,6,rfl,.inr ⟨HB0.out,rfl,by rw[if_pos];exact List.length_eq_zero_iff.1 (by have:=HN.out;omega)⟩,B8.out.trans (TY.out.below LW.out)⟩
 ·have n0: (E'==0) =false:=by simpa using hE
  have HB:Hid (¬oR ⟨T,nm,pf,lk,md,sz⟩ rs) :=fun h=>hE (MG.out.1 h).1;have HB0:=HB;clear HB hE;by_cases h0:0<n
  ·have n1: (0:Int) <n:=by omega
   go_wp2_with (first| (refine ag rfl 130 rfl Ust.cr HZ.out ?_;intro w7 g7 b7;have R7:=ad g7;have A7:=ad b7;clear g7 b7) | (refine ae rfl 130 _ _ rfl w6.heap.size rfl (Ust.bA T' nm' pf' lk' md' sz') Ust.cr rfl 130 R7.out HO.out.2 rfl (aY _ _ _ _ _ _) ?_;intro w8 g8 t8;have A8:=ad (A7.out.trans (t8.below ah));have Y8:=ad g8;have H8:=ad (H6.out.below A8.out H6.out.lt);have Q8:=ad (Q6.out.below A8.out Q6.out.lt);have X8:=ad (X6.out.below A8.out X6.out.lt);have I8:=ad (I6.out.below A8.out);have B8:=ad (ar B6.out A8.out);have d0:=Y8.out.get 0 rfl;have d1:=Y8.out.get 1 rfl;have d2:=Y8.out.get 2 rfl;have d3:=Y8.out.get 3 rfl;have d4:=Y8.out.get 4 rfl;have d5:=Y8.out.get 5 rfl;have c0:=H8.out.get 0 rfl;have c1:=H8.out.get 1 rfl;have c2:=H8.out.get 2 rfl;have c3:=H8.out.get 3 rfl;have c4:=H8.out.get 4 rfl;have c5:=H8.out.get 5 rfl;have e0:=X8.out.get 0 rfl;have e1:=X8.out.get 1 rfl;have e2:=X8.out.get 2 rfl;have e3:=X8.out.get 3 rfl;have e4:=X8.out.get 4 rfl;clear g8 t8) | (refine ae rfl 68 _ _ rfl w1.heap.size rfl (aR 0 emp 0 emp 0) (aR 0 emp 0 emp 0) rfl 68 Q8.out EO.out.2 rfl (bt _ _ _ _ _) ?_;intro y1 gy ty;have QY:=ad gy;have TY:=ad ty;clear gy ty));exact bodyPost_ret (aH Tryz.results65 EO.out _ w1.heap.size rfl _ (aR 0 emp 0 emp 0) QY.out rfl) rfl ⟨⟨0,emp,0,emp,0⟩,17,rfl,.inr ⟨HB0.out,rfl,by rw[if_neg];rintro rfl;have:=HN.out;simp at this;omega⟩,B8.out.trans (TY.out.below LW.out)⟩
  ·have n1:¬(0:Int) <n:=by omega
   go_wp2_with (first| (refine ag rfl 130 rfl Ust.cr HZ.out ?_;intro w7 g7 b7;have R7:=ad g7;have A7:=ad b7;clear g7 b7) | (refine ae rfl 130 _ _ rfl w6.heap.size rfl (Ust.bA T' nm' pf' lk' md' sz') Ust.cr rfl 130 R7.out HO.out.2 rfl (aY _ _ _ _ _ _) ?_;intro w8 g8 t8;have A8:=ad (A7.out.trans (t8.below ah));have Y8:=ad g8;have H8:=ad (H6.out.below A8.out H6.out.lt);have Q8:=ad (Q6.out.below A8.out Q6.out.lt);have X8:=ad (X6.out.below A8.out X6.out.lt);have I8:=ad (I6.out.below A8.out);have B8:=ad (ar B6.out A8.out);have d0:=Y8.out.get 0 rfl;have d1:=Y8.out.get 1 rfl;have d2:=Y8.out.get 2 rfl;have d3:=Y8.out.get 3 rfl;have d4:=Y8.out.get 4 rfl;have d5:=Y8.out.get 5 rfl;have c0:=H8.out.get 0 rfl;have c1:=H8.out.get 1 rfl;have c2:=H8.out.get 2 rfl;have c3:=H8.out.get 3 rfl;have c4:=H8.out.get 4 rfl;have c5:=H8.out.get 5 rfl;have e0:=X8.out.get 0 rfl;have e1:=X8.out.get 1 rfl;have e2:=X8.out.get 2 rfl;have e3:=X8.out.get 3 rfl;have e4:=X8.out.get 4 rfl;clear g8 t8) | (refine ae rfl 68 _ _ rfl w1.heap.size rfl (aR 0 emp 0 emp 0) (aR 0 emp 0 emp 0) rfl 68 Q8.out EO.out.2 rfl (bt _ _ _ _ _) ?_;intro y1 gy ty;have QY:=ad gy;have TY:=ad ty;clear gy ty));exact bodyPost_ret (aH Tryz.results65 EO.out _ w1.heap.size rfl _ (aR 0 emp 0 emp 0) QY.out rfl) rfl ⟨⟨0,emp,0,emp,0⟩,6,rfl,.inr ⟨HB0.out,rfl,by rw[if_pos];exact List.length_eq_zero_iff.1 (by have:=HN.out;omega)⟩,B8.out.trans (TY.out.below LW.out)⟩
end Go.Proofs.YtcjagakckffkiaaGreatDoor.Fit
namespace Go.Proofs.YtcjagakckffkiaaGreatDoor
open Go.RowKit
theorem Out.late {lo hi g:Nat}{a b c:World}(h:Out lo hi a b)(ht:dp b c g)(hg:a.heap.size<=g) :Out lo hi a c:=by
 have hs:=ht.size;have ho:=fun k=>ht.other (k:=k);obtain⟨cs,rfl⟩:=ht;exact⟨h.os,h.tape,h.output,by have:=h.size;omega,fun k hk hj=> (ho k (by omega)).trans (h.block k hk hj)⟩
theorem Out.bG {lo hi B:Nat}{a b c:World}(h:Out lo hi a b)(hb:Below B b c)(hB:a.heap.size<=B) :Out lo hi a c:=
 ⟨hb.os.trans h.os,hb.tape.trans h.tape,hb.output.trans h.output,Nat.le_trans h.size hb.size,fun k hk hj=> (hb.block k (Nat.lt_of_lt_of_le hk hB)).trans (h.block k hk hj)⟩
end Go.Proofs.YtcjagakckffkiaaGreatDoor
namespace Go.Proofs.YtcjagakckffkiaaGreatDoor.dO
open Go.RowKit Go.Proofs.YtcjagakckffkiaaGreatDoor.Fit bL Pnm
theorem uo {Z:List Int}{E:Int}{o:Nat}{err:Int}(hE:E=11\/E=4)(h:bM Z E o err=0) :err=0/\o+512<=Z.length:=by
 unfold bM at h;by_cases he:err≠0
 ·rw[if_pos he]at h;exact absurd h he
 ·rw[if_neg he]at h;refine⟨Decidable.byContradiction he,?_⟩;by_cases hc:o+512<=Z.length
  ·exact hc
  ·rw[if_neg hc]at h
   split at h<;>omega
theorem LI {zs:List Int}(h:Ust.fB zs=0) :Ust.dH zs=Ust.bA (Ust.dT zs) (Ust.oN zs) (Ust.og zs) (Ust.oP zs) (Ust.pT zs) (Ust.pS zs) :=by
 obtain⟨h1,h2,h3,h4⟩:=Ust.yS h;exact(Ust.qc h1 h2 h3 h4).2
theorem Ew {zs:List Int}(h:Ust.fB zs≠0) :Ust.dH zs=Ust.cr:=by
 by_cases h1:zs.length=512
 ·by_cases h2:zs=jC.cu zs
  ·by_cases h3:Ust.known (Ust.dT zs)
   ·by_cases h4:Ust.Fo zs
    ·exact absurd (Ust.qc h1 h2 h3 h4).1 h
    ·exact(Ust.yQ h1 h2 h3 h4).2
   ·exact(Ust.zV h1 h2 h3).2
  ·exact(Ust.En h1 h2).2
 ·exact(Ust.EW h1).2
theorem AF {h:Hd}{rs:List Rec}{x:dY}{E:Int}(hm:Mg h rs x E)(o last o':Nat) :vM h rs o last o'=⟨x,if E=0 then o else last,E,o',0⟩/\ (E≠0->x=ez) :=by
 unfold vM;rcases hm with⟨h1,rfl,rfl⟩|⟨h1,rfl,rfl⟩
 ·rw[if_pos h1,if_pos rfl];exact⟨rfl,fun h=>absurd rfl h⟩
 ·rw[if_neg h1];by_cases h0:rs= []
  ·rw[if_pos h0,h0,if_pos (show([] :List Rec).length=0 from rfl),if_neg (by decide)];exact⟨rfl,fun _=>rfl⟩
  ·rw[if_neg h0,if_neg (fun h=>h0 (List.length_eq_zero_iff.1 h)),if_neg (by decide)];exact⟨rfl,fun _=>rfl⟩
def PK (d:DR)(e:Ending) :Prop:=e= .returned (.tuple #[.agg (aR d.x.k d.x.p d.x.m d.x.t d.x.s).toArray,.int .i64 d.p,.int .i64 d.e])
theorem uD (zs:List Int)(h:Bytes zs) : (strOfNums (Cst.nL zs)).size<=256:=by
 have hb:∀z∈Cst.nL zs,0<=z/\z<=255:=Cst.Hu zs h;rw[<- an,av hb];unfold Cst.nL
 split
 ·exact Nat.zero_le _
 ·split
  ·exact Nat.zero_le _
  ·have:=Cst.mV zs;omega
theorem wL {B:List Int}(h:Bytes B) : (Ust.oN B).size<=256/\ (Ust.og B).size<=256/\ (Ust.oP B).size<=256:=
 ⟨uD _ (h.take _),uD _ ((h.drop _).take _),uD _ ((h.drop _).take _)⟩
theorem GX {D:List Int}(hD:Bytes D) : (∀r∈(bL.bh D).1,r.2.size<=65536)/\ (bL.bh D).1.length<=3:=by
 rcases qw D hD with⟨_,q2,_⟩|⟨_,q2,_⟩
 ·exact⟨fun r hr=> (kr _ _ q2 r hr).1.val,tH q2⟩
 ·rw[q2];exact⟨fun r hr=>by simp at hr,Nat.zero_le _⟩
end Go.Proofs.YtcjagakckffkiaaGreatDoor.dO
namespace Go.Proofs.YtcjagakckffkiaaGreatDoor.dO
open Go.Lib Go.RowKit Go.Proofs.YtcjagakckffkiaaGreatDoor.Fit bL Pnm
abbrev QN (h:Hd) :List Value:=Ust.bA h.T h.nm h.pf h.lk h.md h.sz
def hz:Hd:=⟨0,emp,emp,emp,0,0⟩
theorem wh {Z:List Int}{E:Int}{o:Nat}{err:Int}(hE:E=11\/E=4)(h:bM Z E o err=0) :err=0/\o+512<=Z.length:=by
 unfold bM at h;by_cases he:err≠0
 ·rw[if_pos he]at h;exact absurd h he
 ·rw[if_neg he]at h;refine⟨Decidable.byContradiction he,?_⟩;by_cases hc:o+512<=Z.length
  ·exact hc
  ·rw[if_neg hc]at h
   split at h<;>omega
noncomputable def tj (Z:List Int)(E:Int)(o:Nat) :Int:=if bM Z E o 0≠0 then(if bM Z E o 0=4 then 5 else bM Z E o 0)else Ust.fB ((Z.drop o).take 512)
noncomputable def Ec (Z:List Int)(E:Int)(o:Nat) :Nat:=if bM Z E o 0≠0 then fu Z o 0 else if Ust.fB ((Z.drop o).take 512)≠0 then o else 0
noncomputable def Hx (Z:List Int)(E:Int)(o:Nat) :Hd:=if tj Z E o≠0 then hz else iB ((Z.drop o).take 512)
theorem uK {Z:List Int}{E:Int}{o:Nat}(h:bM Z E o 0≠0) :tj Z E o= (if bM Z E o 0=4 then 5 else bM Z E o 0)/\Ec Z E o=fu Z o 0/\Hx Z E o=hz/\tj Z E o≠0:=by
 have e:tj Z E o= (if bM Z E o 0=4 then 5 else bM Z E o 0) :=if_pos h;have n:tj Z E o≠0:=by rw[e];split<;>first|decide|assumption
 exact⟨e,if_pos h,if_pos n,n⟩
theorem yk {Z:List Int}{E:Int}{o:Nat}(h:bM Z E o 0=0)(hd:Ust.fB ((Z.drop o).take 512)≠0) :tj Z E o=Ust.fB ((Z.drop o).take 512)/\Ec Z E o=o/\Hx Z E o=hz:=by
 have e:tj Z E o=Ust.fB ((Z.drop o).take 512) :=if_neg (by simpa using h);refine⟨e,?_,if_pos (by rw[e];exact hd)⟩;unfold Ec;rw[if_neg (by simpa using h),if_pos hd]
theorem DQ {Z:List Int}{E:Int}{o:Nat}(h:bM Z E o 0=0)(hd:Ust.fB ((Z.drop o).take 512) =0) :tj Z E o=0/\Ec Z E o=0/\Hx Z E o=iB ((Z.drop o).take 512) :=by
 have e:tj Z E o=0:=by unfold tj;rw[if_neg (by simpa using h)];exact hd
 refine⟨e,?_,if_neg (by simpa using e)⟩;unfold Ec;rw[if_neg (by simpa using h),if_neg (by simpa using hd)]
open Classical in
noncomputable def tr (Z:List Int)(E:Int)(o:Nat)(h:Hd) :Int:=if¬eY h then 17 else if eO Z E (o+512) 0 h.sz≠0 then eO Z E (o+512) 0 h.sz else(bL.bh (gw Z (o+512) 0 h.sz)).2.2
open Classical in
noncomputable def AU (Z:List Int)(E:Int)(o:Nat)(h:Hd) :Nat:=if¬eY h then o else if eO Z E (o+512) 0 h.sz≠0 then mw Z (o+512) 0 h.sz else if(bL.bh (gw Z (o+512) 0 h.sz)).2.2≠0 then o+512+ (bL.bh (gw Z (o+512) 0 h.sz)).2.1 else 0
open Classical in
noncomputable def zG (Z:List Int)(E:Int)(o:Nat)(h:Hd) :List Rec:=if¬eY h then []else if eO Z E (o+512) 0 h.sz≠0 then []else if(bL.bh (gw Z (o+512) 0 h.sz)).2.2≠0 then []else(bL.bh (gw Z (o+512) 0 h.sz)).1
open Classical in
noncomputable def lP (Z:List Int)(o:Nat)(h:Hd) :Nat:=if¬eY h then o+512 else jQ Z (o+512) 0 h.sz
open Classical in
noncomputable def Et (Z:List Int)(E:Int)(o:Nat)(h:Hd) :Int:=if¬eY h then 0 else nP Z E (o+512) 0 h.sz
section
variable {Z:List Int} {E:Int} {o:Nat} {h:Hd}
theorem yn (hp:¬eY h) :tr Z E o h=17/\AU Z E o h=o/\zG Z E o h= []/\lP Z o h=o+512/\Et Z E o h=0:=⟨if_pos hp,if_pos hp,if_pos hp,if_pos hp,if_pos hp⟩
theorem vg (hp:eY h)(hr:eO Z E (o+512) 0 h.sz≠0) :tr Z E o h=eO Z E (o+512) 0 h.sz/\AU Z E o h=mw Z (o+512) 0 h.sz/\zG Z E o h= []/\lP Z o h=jQ Z (o+512) 0 h.sz/\Et Z E o h=nP Z E (o+512) 0 h.sz:=by
 have hn:=not_not_intro hp;unfold tr AU zG lP Et;rw[if_neg hn,if_neg hn,if_neg hn,if_neg hn,if_neg hn,if_pos hr,if_pos hr,if_pos hr];exact⟨rfl,rfl,rfl,rfl,rfl⟩
theorem yR (hp:eY h)(hr:eO Z E (o+512) 0 h.sz=0)(hq: (bL.bh (gw Z (o+512) 0 h.sz)).2.2≠0) :
 tr Z E o h= (bL.bh (gw Z (o+512) 0 h.sz)).2.2/\AU Z E o h=o+512+ (bL.bh (gw Z (o+512) 0 h.sz)).2.1/\zG Z E o h= []/\lP Z o h=jQ Z (o+512) 0 h.sz/\Et Z E o h=nP Z E (o+512) 0 h.sz:=by
 have hn:=not_not_intro hp;have hr':¬eO Z E (o+512) 0 h.sz≠0:=by simpa using hr
 unfold tr AU zG lP Et;rw[if_neg hn,if_neg hn,if_neg hn,if_neg hn,if_neg hn,if_neg hr',if_neg hr',if_neg hr',if_pos hq,if_pos hq];exact⟨rfl,rfl,rfl,rfl,rfl⟩
theorem tS (hp:eY h)(hr:eO Z E (o+512) 0 h.sz=0)(hq: (bL.bh (gw Z (o+512) 0 h.sz)).2.2=0) :
 tr Z E o h=0/\AU Z E o h=0/\zG Z E o h= (bL.bh (gw Z (o+512) 0 h.sz)).1/\lP Z o h=jQ Z (o+512) 0 h.sz/\Et Z E o h=nP Z E (o+512) 0 h.sz:=by
 have hn:=not_not_intro hp;have hr':¬eO Z E (o+512) 0 h.sz≠0:=by simpa using hr
 have hq':¬(bL.bh (gw Z (o+512) 0 h.sz)).2.2≠0:=by simpa using hq
 unfold tr AU zG lP Et;rw[if_neg hn,if_neg hn,if_neg hn,if_neg hn,if_neg hn,if_neg hr',if_neg hr',if_neg hr',if_neg hq',if_neg hq'];exact⟨hq,rfl,rfl,rfl,rfl⟩
theorem zU {s:Nat}(hs:s<=1099511627776)(hE:E=11\/E=4)(hr:eO Z E o 0 s=0) :nP Z E o 0 s=0/\jQ Z o 0 s=o+512*aZ s/\mw Z o 0 s=o+512*aZ s:=by
 by_cases hok:dM Z o 0 (aZ s)
 ·by_cases hi:gx (bj Z o s) < (bj Z o s).length
  ·rw[(gM (E:=E) hs rfl hok hi).1]at hr;cases hr
  ·obtain⟨_,r2,_,r4,r5⟩:=jN (E:=E) hs rfl hok hi;exact⟨r5,r4,r2⟩
 ·have h1:= (jM (E:=E) hs rfl hok).1;have h2:=ry hE hok;rw[h1]at hr
  split at hr
  ·cases hr
  ·exact absurd hr h2
theorem nG (hE:E=11\/E=4)(hr:tr Z E o h=0) :eY h/\eO Z E (o+512) 0 h.sz=0/\ (bL.bh (gw Z (o+512) 0 h.sz)).2.2=0/\Et Z E o h=0/\lP Z o h=jQ Z (o+512) 0 h.sz:=by
 by_cases hp:eY h
 ·by_cases h1:eO Z E (o+512) 0 h.sz=0
  ·by_cases h2: (bL.bh (gw Z (o+512) 0 h.sz)).2.2=0
   ·refine⟨hp,h1,h2,?_,(tS hp h1 h2).2.2.2.1⟩;rw[(tS hp h1 h2).2.2.2.2];obtain⟨s,hs⟩:∃s:Nat,h.sz=s:=⟨h.sz.toNat,by have:=hp.2.2.2.2;omega⟩;have h8:=hp.2.2.2.2.2;rw[hs]at h1 h8⊢;exact(zU (by omega) hE h1).1
   ·rw[(yR hp h1 h2).1]at hr;exact absurd hr h2
  ·rw[(vg hp h1).1]at hr;exact absurd hr h1
 ·rw[(yn hp).1]at hr;cases hr
theorem IF (hE:E=11\/E=4)(hr:tr Z E o h≠0) :nQ Z E o h=⟨ez,AU Z E o h,tr Z E o h,lP Z o h,Et Z E o h⟩:=by
 unfold nQ;by_cases hp:eY h
 ·rw[if_neg (not_not_intro hp)];by_cases h1:eO Z E (o+512) 0 h.sz=0
  ·by_cases h2: (bL.bh (gw Z (o+512) 0 h.sz)).2.2=0
   ·exact absurd (tS hp h1 h2).1 hr
   ·obtain⟨e1,e2,_,e4,e5⟩:=yR hp h1 h2;have h8:=hp.2.2.2.2;obtain⟨s,hs⟩:∃s:Nat,h.sz=s:=⟨h.sz.toNat,by omega⟩;have z5:nP Z E (o+512) 0 h.sz=0:=by rw[hs]at h1 h8⊢;exact(zU (by omega) hE h1).1
    rw[if_neg (by simpa using h1),e1,e2,e4,e5,z5];unfold CF;rw[if_pos h2]
  ·obtain⟨e1,e2,_,e4,e5⟩:=vg hp h1;rw[if_pos h1,e1,e2,e4,e5]
 ·obtain⟨e1,e2,_,e4,e5⟩:=yn (Z:=Z) (E:=E) (o:=o) hp;rw[if_pos hp,e1,e2,e4,e5]
theorem Gr (hE:E=11\/E=4)(hr:tr Z E o h=0)(hl:tj Z E (lP Z o h)≠0) :nQ Z E o h=⟨ez,Ec Z E (lP Z o h),tj Z E (lP Z o h),fu Z (lP Z o h) 0,bM Z E (lP Z o h) 0⟩:=by
 obtain⟨hp,h1,h2,h3,h4⟩:=nG hE hr;unfold nQ CF;rw[if_neg (not_not_intro hp),if_neg (by simpa using h1),if_neg (by simpa using h2),<- h4];by_cases hn:bM Z E (lP Z o h) 0≠0
 ·obtain⟨e1,e2,_,_⟩:=uK hn;rw[if_pos hn,e1,e2]
 ·have hn0:bM Z E (lP Z o h) 0=0:=Decidable.byContradiction hn;obtain⟨_,hg⟩:=wh hE hn0;have hd:Ust.fB ((Z.drop (lP Z o h)).take 512)≠0:=fun hd=>hl (DQ hn0 hd).1;obtain⟨e1,e2,_⟩:=yk hn0 hd;unfold Dc;rw[if_neg hn,if_pos hd,e1,e2,hn0,(fx (E:=E) hg).2.2]
theorem Ou (hE:E=11\/E=4)(hr:tr Z E o h=0)(hl:tj Z E (lP Z o h) =0) :nQ Z E o h=vM (Hx Z E (lP Z o h)) (zG Z E o h) o (lP Z o h) (lP Z o h+512)/\bM Z E (lP Z o h) 0=0/\fu Z (lP Z o h) 0=lP Z o h+512:=by
 obtain⟨hp,h1,h2,h3,h4⟩:=nG hE hr;have hn0:bM Z E (lP Z o h) 0=0:=Decidable.byContradiction fun hn=> (uK hn).2.2.2 hl;obtain⟨_,hg⟩:=wh hE hn0;have hd:Ust.fB ((Z.drop (lP Z o h)).take 512) =0:=Decidable.byContradiction fun hd=>hd ((yk hn0 hd).1.symm.trans hl);refine⟨?_,hn0,(fx (E:=E) hg).2.2⟩;rw[(DQ hn0 hd).2.2,(tS hp h1 h2).2.2.1];unfold nQ CF;rw[if_neg (not_not_intro hp),if_neg (by simpa using h1),if_neg (by simpa using h2),<- h4,if_neg (by simpa using hn0)];unfold Dc;rw[if_neg (by simpa using hd)]
end
end Go.Proofs.YtcjagakckffkiaaGreatDoor.dO
