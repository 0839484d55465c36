import Derived.Test.YtcjagakckffkiaaGreatDoorS19
set_option maxHeartbeats 16000000
set_option maxRecDepth 100000
namespace Go.Proofs.YtcjagakckffkiaaGreatDoor
namespace Ust
open Go.RowKit
open Oct Cst gR
theorem xm (V C:Nat->List Int)(v0 v1 v2 v3 v4 v5:Value)(w:World)(h0:C 0=ao 512)(h1:∀j,j<13->C (j+1) =lay (C j) (xV j) (V j))(hC:∀j,j<=13-> (C j).length=512)(hV:∀j,j<13-> (V j).length=BU j)
 (hk:∀w,Calls Tryz.prog 148 #[.agg #[v0,v1,v2,v3,v4,v5]] w fun e w'=>e= .returned (.int .i64 0)/\Below w.heap.size w w')
 (hf:∀j,j<13->∀w,Calls Tryz.prog (qT j) #[.agg #[v0,v1,v2,v3,v4,v5],.int .i64 (BU j:Int)] w (fb (V j) (BU j) w)) :
 Calls Tryz.prog 100 #[.agg #[v0,v1,v2,v3,v4,v5]] w fun e w'=>∃b:Nat,e= .returned (.tuple #[.slice (some ⟨b,0,none⟩) 512 512,.int .i64 0])/\br w' b 236 (bJ (C 13))/\w.heap.size<=b/\Below w.heap.size w w':=by
 have C0:=aa h0;have C1:=aa h1;have CL:=aa hC;have VL:=aa hV;have HK:=aa hk;have HF:=aa hf;clear h0 h1 hC hV hk hf;go_enter Tryz.func100,Tryz.ntmps100;go_wp2_with (first| (refine af rfl 130 _ rfl [v0,v1,v2,v3,v4,v5] rfl ?_;intro w1 g1 b1;have H1:=aa g1;have B1:=aa b1;have c0:=g1.get 0 rfl;have c1:=g1.get 1 rfl;have c2:=g1.get 2 rfl;have c3:=g1.get 3 rfl;have c4:=g1.get 4 rfl;have c5:=g1.get 5 rfl;clear g1 b1));refine(HK.out _).mono ?_;rintro e w2 ⟨rfl,b2⟩;have H2:=aa (H1.out.below b2 H1.out.lt);have B2:=aa (ar B1.out b2);clear b2 c0 c1 c2 c3 c4 c5 H1 B1;have L2:=aa H2.out.lt;obtain⟨i0,HJ⟩:=dx (P:=Tryz.prog) (e:=5) (by kernel_rfl);go_wp2_with (first| (refine cU rfl _ _ 25 5 rfl Tryz.underlying25 i0 HJ 512 rfl rfl (by decide) ?_;intro w3 h3 b3;have A3:=aa h3;have B3:=aa b3;clear h3 b3));refine(sB _).mono ?_;rintro e w4 ⟨rfl,h4,b4⟩;have H4:=aa h4;have B4:=aa b4;clear h4 b4;have O4:=aa ((H2.out.below B3.out H2.out.lt).below B4.out (Nat.lt_of_lt_of_le L2.out B3.out.size));have A4:=aa (A3.out.below B4.out A3.out.lt);have BB:=aa (ar (ar B2.out B3.out) B4.out);have L3:=aa A3.out.lt;have L4:=aa H4.out.lt;clear HJ;obtain⟨hb,hhb⟩:=named w.heap.size;obtain⟨ab,hab⟩:=named w2.heap.size;obtain⟨tb,htb⟩:=named w3.heap.size;rw[<- hhb.out]at O4 L2;rw[<- hab.out]at A4 L3 L2;rw[<- htb.out]at H4 L3 L4;have LW:Hid (w.heap.size<=ab) :=by have h:=hab.out;show _<=_;rw[h];exact B2.out.size
 rw[<- hab.out,<- htb.out,<- hhb.out];go_wp2_with fail;go_loopw [16] (fun i wr=>∃j:Nat,j<=13/\i= .int .i64 j/\br wr ab 5 (C j)/\an wr tb 192 BM/\an wr hb 130 [v0,v1,v2,v3,v4,v5]/\Below w.heap.size w wr) (fun i _=>13- (intOf i).toNat)
 case atStart=>exact⟨0,Nat.zero_le _,rfl,by rw[C0.out];exact A4.out,H4.out,O4.out,BB.out⟩
 case round=>
  obtain⟨j,hj,rfl,ha,ht,ho,hbb⟩:=hrel;have A:=aa ha;have T:=aa ht;have O:=aa ho;have B:=aa hbb;clear ha ht ho hbb;by_cases hlt:j<13
  ·have hlt': (j:Int) <13:=by omega
   have hrow:=BP hlt;obtain⟨off,hoff⟩:=named (xV j);obtain⟨wd,hwd⟩:=named (BU j);obtain⟨f,hfn⟩:=named (qT j);obtain⟨p,hpn⟩:=named (Er j);have HFj:=aa (HF.out j hlt);have VLj:=aa (VL.out j hlt);have FIT:=aa (uM hlt);have CN:=aa (C1.out j hlt);rw[<- hoff.out,<- hwd.out,<- hfn.out,<- hpn.out]at hrow;have FE:Hid (∀args w,(callFunc (qT j) args).run Tryz.prog w= .ok (.enter (qT j) args) w) :=fun args w=>vt hlt args w;rw[<- hfn.out]at FE;rw[<- hwd.out,<- hfn.out]at HFj;rw[<- hwd.out]at VLj;rw[<- hoff.out]at CN;rw[<- hoff.out,<- hwd.out]at FIT;have RW:Hid (∀i u,(yK off wd f p)[i]? =some u->wr.cell? ⟨tb,j*4+i,none⟩=some u) :=fun i u hu=>T.out.get _ (hrow i u hu);clear hrow hoff hwd hfn hpn;have HZ:Hid ((Tryz.prog.info? 192).map (·.zero) =some (some (.agg ([.int .i64 0,.int .i64 0,.nilFunc,.nilFunc] :List Value).toArray))) :=by show _=_;kernel_rfl
   have HT:Hid (fV Tryz.prog 192 4) :=⟨⟨_,Tryz.underlying192⟩,by kernel_rfl⟩;go_wp2_with (first| (refine gv rfl 192 4 HT.out _ rfl tb (j*4) rfl (yK off wd f p) rfl RW.out ?_) | (refine ag rfl 192 rfl [.int .i64 0,.int .i64 0,.nilFunc,.nilFunc] HZ.out ?_;intro w5 g5 b5;have H5:=aa g5;have B5:=aa b5;clear g5 b5) | (refine ae rfl 192 _ _ rfl wr.heap.size rfl (yK off wd f p) [.int .i64 0,.int .i64 0,.nilFunc,.nilFunc] rfl 192 H5.out HT.out.2 rfl (by simp[Value.oneCell']) ?_;intro w6 g6 t6;have H6:=aa g6;have T6:=aa t6;clear g6 t6));obtain⟨g,hg⟩:=named wr.heap.size;have LA:=aa A.out.lt;have LT:=aa T.out.lt;have LO:=aa O.out.lt;rw[<- hg.out]at H5 H6 T6 LA LT LO
   have NG:Hid (Below w.heap.size w w6) :=by
    have h:w.heap.size<=g:=by rw[hg.out];exact B.out.size
    exact B.out.trans ((B5.out.mono B.out.size).trans (T6.out.below h))
   have A6:Hid (br w6 ab 5 (C j)) := (A.out.below B5.out A.out.lt).bH T6.out (Nat.ne_of_lt LA.out);have T6':Hid (an w6 tb 192 BM) := (T.out.below B5.out T.out.lt).bH T6.out (Nat.ne_of_lt LT.out);have O6:Hid (an w6 hb 130 [v0,v1,v2,v3,v4,v5]) := (O.out.below B5.out O.out.lt).bH T6.out (Nat.ne_of_lt LO.out)
   have KS:Hid (∀w',Below w6.heap.size w6 w'->w'.cell? ⟨g,0,none⟩=some (.int .i64 off)/\w'.cell? ⟨g,1,none⟩=some (.int .i64 wd)/\w'.cell? ⟨g,2,none⟩=some (.func (.func f) #[] #[])/\w'.cell? ⟨hb,0,none⟩=some v0/\w'.cell? ⟨hb,1,none⟩=some v1/\w'.cell? ⟨hb,2,none⟩=some v2/\w'.cell? ⟨hb,3,none⟩=some v3/\w'.cell? ⟨hb,4,none⟩=some v4/\w'.cell? ⟨hb,5,none⟩=some v5) :=fun w' hw=>by
    have h:=H6.out.below hw H6.out.lt;have h':=O6.out.below hw O6.out.lt;exact⟨h.get 0 rfl,h.get 1 rfl,h.get 2 rfl,h'.get 0 rfl,h'.get 1 rfl,h'.get 2 rfl,h'.get 3 rfl,h'.get 4 rfl,h'.get 5 rfl⟩
   have NGA:Hid (g≠ab) :=by have:=LA.out;show _≠_;omega
   have NOA:Hid (hb≠ab) :=Nat.ne_of_lt L2.out;have NTA:Hid (tb≠ab) :=by have:=L3.out;show _≠_;omega
   have KT:Hid (∀w' w'',Below w6.heap.size w6 w'->cC w' w'' ab->w''.cell? ⟨g,0,none⟩=some (.int .i64 off)/\w''.cell? ⟨g,1,none⟩=some (.int .i64 wd)/\w''.cell? ⟨g,2,none⟩=some (.func (.func f) #[] #[])/\w''.cell? ⟨hb,0,none⟩=some v0/\w''.cell? ⟨hb,1,none⟩=some v1/\w''.cell? ⟨hb,2,none⟩=some v2/\w''.cell? ⟨hb,3,none⟩=some v3/\w''.cell? ⟨hb,4,none⟩=some v4/\w''.cell? ⟨hb,5,none⟩=some v5) :=fun w' w'' hw ht=>by
    have h:= (H6.out.below hw H6.out.lt).bH ht NGA.out;have h':= (O6.out.below hw O6.out.lt).bH ht NOA.out;exact⟨h.get 0 rfl,h.get 1 rfl,h.get 2 rfl,h'.get 0 rfl,h'.get 1 rfl,h'.get 2 rfl,h'.get 3 rfl,h'.get 4 rfl,h'.get 5 rfl⟩
   have CLj:=aa (CL.out j hj);have HE:Hid ((Tryz.prog.info? 5).map (·.size) =some 1) :=by show _=_;kernel_rfl
   have o1: (off:Int)<=512:=by have:=FIT.out;omega
   have o2:¬512<off:=by have:=FIT.out;omega
   have o3:¬512=off:=by have:=FIT.out;omega
   go_simp;rw[<- hg.out];refine wp_region_held_drew (S:= (fun w'=>w'.cell? ⟨g,0,none⟩=some (.int .i64 off)/\w'.cell? ⟨g,1,none⟩=some (.int .i64 wd)/\w'.cell? ⟨g,2,none⟩=some (.func (.func f) #[] #[])/\w'.cell? ⟨hb,0,none⟩=some v0/\w'.cell? ⟨hb,1,none⟩=some v1/\w'.cell? ⟨hb,2,none⟩=some v2/\w'.cell? ⟨hb,3,none⟩=some v3/\w'.cell? ⟨hb,4,none⟩=some v4/\w'.cell? ⟨hb,5,none⟩=some v5)) (by kernel_rfl) (KS.out _ au.drew) (fun hHeld=>?_);refine aY 0 (h:=aY 1 (h:=aY 2 (h:=aY 3 (h:=?_))));simp only[Act.put,bw,bx,bz];refine aY 4 (h:=aY 5 (h:=aY 6 (h:=aY 7 (h:=?_))));simp only[Act.put,bw,bx,bz];refine tk 8 ?_;simp only[Act.put,bw,bx,bz];refine rd 9 fun K hK=>?_;go_simp;rw[FE.out,Oper.upon_enter];refine(HFj.out _).mono ?_;rintro e w7 ⟨b7,c7,rfl,r7,l7,n7,m7,d7⟩;have R7:=aa r7;have L7:=aa l7;have D7:=aa (au.drew.trans d7);clear r7 l7 d7 n7 m7;go_wp2_with fail;refine hK.out _ _ (KS.out _ D7.out) (fun hHeld=>?_);clear hK K
   (try simp only[Act.put,bw,bx,bz])
   refine rd 10 fun K hK=>?_;have A7:=aa (A6.out.below D7.out A6.out.lt);refine oh rfl (.tmp 23) (.tmp 29) 25 25 rfl 5 Tryz.underlying25 HE.out ab off (512- off) (512- off) rfl (some ⟨b7,0,none⟩) wd c7 rfl (V j) (.cH R7.out L7.out) VLj.out 5 (C j) A7.out (by rw[CLj.out];omega) ?_;intro w8 a8 t8;have A8:=aa a8;have T8:=aa t8;clear a8 t8;refine hK.out _ _ (KT.out _ _ D7.out T8.out) (fun hHeld=>?_);clear hK K
   (try simp only[Act.put,bw,bx,bz])
   refine wpAnyH_done (by kernel_rfl) ?_ _
   have AN:Hid (br w8 ab 5 (C (j+1))) :=by
    have h:=A8.out;rw[List.take_of_length_le (by have:=FIT.out;rw[VLj.out];omega),<- CN.out]at h;exact h
   have TN:=aa ((T6'.out.below D7.out T6'.out.lt).bH T8.out NTA.out);have ON:=aa ((O6.out.below D7.out O6.out.lt).bH T8.out NOA.out);have BN:=aa (NG.out.trans ((D7.out.mono NG.out.size).trans (T8.out.below LW.out)));clear o1 o2 o3;obtain⟨z,hz⟩:=named (goInt ↑(List.take (512- off) (V j)).length);rw[<- hz.out];clear hz;go_wp2;go_roundw
   case rel=>exact⟨j+1,by omega,by go_num,AN.out,TN.out,ON.out,BN.out⟩
   case measure=>simp[intOf];omega
  ·obtain rfl:j=13:=by omega
   go_wp2_with fail;refine(gR.Bx (some ⟨ab,0,none⟩) 512 (C 13) _ (CL.out 13 aj) A.out.bytes A.out.2).mono ?_;rintro e w9 ⟨b,rfl,h9,l9,b9⟩;have H9:=aa h9;have L9:=aa (Nat.le_trans B.out.size l9);have B9:=aa (ar B.out b9);clear h9 l9 b9;go_wp2;go_ret2;exact⟨b,rfl,H9.out,L9.out,B9.out⟩
section
variable (T:Int) (nm pf lk:ByteArray) (md sz:Int)
theorem An (h:iN T nm pf lk md sz=0){j:Nat}(hj:j<13)(w:World) :
 Calls Tryz.prog (qT j) #[.agg (bu T nm pf lk md sz).toArray,.int .i64 (BU j:Int)] w (fb (BR T nm pf lk md sz j) (BU j) w) :=by
 obtain⟨k1,k2,k3,k4,k5,k6⟩:=cD.1 h
 match j,hj with
 |0,_=>exact Ak T nm pf lk md sz w 100 100 rfl k2
 |1,_=>exact Aj T nm pf lk md sz w k5.1 k5.2
 |2,_=>exact jt T nm pf lk md sz w 8 7 (by decide) (by decide) rfl
 |3,_=>exact jt T nm pf lk md sz w 8 7 (by decide) (by decide) rfl
 |4,_=>exact Al T nm pf lk md sz w k6.1 k6.2
 |5,_=>exact jt T nm pf lk md sz w 12 11 (by decide) (by decide) rfl
 |6,_=>exact Am T nm pf lk md sz w (eB k1) 1
 |7,_=>exact Ah T nm pf lk md sz w 100 100 rfl k3
 |8,_=>exact xt T nm pf lk md sz w
 |9,_=>exact sG T nm pf lk md sz w
 |10,_=>exact jt T nm pf lk md sz w 8 7 (by decide) (by decide) rfl
 |11,_=>exact jt T nm pf lk md sz w 8 7 (by decide) (by decide) rfl
 |12,_=>exact vr T nm pf lk md sz w 155 155 rfl k4
end
end Ust
namespace Cst
open Go.RowKit
theorem _root_.Go.Proofs.YtcjagakckffkiaaGreatDoor.aO.front {w:World}{b off:Nat}{zs ys:List Int}(h:aO w b off zs){m:Nat}(e:zs=ys++List.replicate m 0) :aO w b off ys:=by
 subst e;refine⟨fun i hi=>?_,fun z hz=>h.2 z (List.mem_append_left _ hz)⟩;have:=h.1 i (by rw[List.length_append];omega)
 rwa [List.getD_eq_getElem?_getD,List.getElem?_append_left hi,<- List.getD_eq_getElem?_getD]at this
theorem _root_.Go.Proofs.YtcjagakckffkiaaGreatDoor.aO.trim {w:World}{b off:Nat}{zs:List Int}(h:aO w b off zs) :aO w b off (bW zs) :=by
 obtain⟨m,hm⟩:=gL zs;exact h.front hm
end Cst
namespace Ust
open Go.RowKit
open Oct Cst gR
theorem qh {xs ys:List Int}(hx:Bytes xs)(hy:Bytes ys)(h:¬xs=ys) :¬strOfNums xs=strOfNums ys:=fun e=>h (by
 have h1:=ak hx;rw[e,ak hy]at h1;exact h1.symm)
theorem kI {s t:ByteArray}(h:¬s=t) : (s.toList==t.toList) =false:=by
 rw[beq_eq_false_iff_ne]
 exact fun e=>h (by
  apply ByteArray.ext;apply Array.ext';rw[ByteArray.toList_eq,ByteArray.toList_eq]at e;exact e)
theorem xn (a:Option Addr)(n c:Nat)(xs:List Int)(b:Option Addr)(m d:Nat)(ys:List Int)(w:World)(h1:BytesIn w a xs)(l1:xs.length=n)(h2:BytesIn w b ys)(l2:ys.length=m) :
 Calls Tryz.prog 109 #[.slice a n c,.slice b m d] w fun e w'=>e= .returned (.bool (decide (xs=ys)))/\w=w':=by
 have q1: ((convert 25 9 (.slice a n c)).run Tryz.prog w) = .ok (.string (strOfNums xs)) w:=aQ Tryz.underlying25 Tryz.underlying5 Tryz.underlying9 h1 n c l1;have q2: ((convert 25 9 (.slice b m d)).run Tryz.prog w) = .ok (.string (strOfNums ys)) w:=aQ Tryz.underlying25 Tryz.underlying5 Tryz.underlying9 h2 m d l2;by_cases h:xs=ys
 ·subst h;obtain⟨s,hs⟩:=named (strOfNums xs);rw[<- hs.out]at q1 q2;rw[decide_eq_true rfl];go_enter Tryz.func109,Tryz.ntmps109;go_wp2;go_ret;exact⟨rfl,rfl⟩
 ·have hne:=qh h1.bytes h2.bytes h;rw[decide_eq_false h];obtain⟨s,hs⟩:=named (strOfNums xs);obtain⟨t,ht⟩:=named (strOfNums ys);rw[<- hs.out]at q1 hne;rw[<- ht.out]at q2 hne;have hn:=kI hne;go_enter Tryz.func109,Tryz.ntmps109;go_wp2;go_ret;exact⟨rfl,rfl⟩
def hv (zs:List Int)(j:Nat) :List Value:=
 [.int .u8 (if 6<j then dT zs else 0),.string (if 0<j then xd zs else{data:= #[]}),.string (if 12<j then xe zs else{data:= #[]}),.string (if 7<j then xa zs else{data:= #[]}),.int .i64 (if 1<j then xb zs else 0),.int .i64 (if 4<j then xf zs else 0)]
theorem bL (T:Int)(nm pf lk:ByteArray)(md sz:Int) :∀v∈bu T nm pf lk md sz,v.oneCell'=true:=by simp[Value.oneCell']
end Ust
namespace fQ
open Go.RowKit Go.Proofs.YtcjagakckffkiaaGreatDoor.Fit Pxr Pnm
theorem pe {zs:List Int} :ee zs↔∀x,x<zs.length->zs.getD x 0=0:=by
 unfold ee;constructor
 ·intro h x hx;rw[List.getD_eq_getElem?_getD,List.getElem?_eq_getElem hx];exact h _ (List.getElem_mem hx)
 ·intro h z hz;obtain⟨x,hx,rfl⟩:=List.mem_iff_getElem.1 hz;have:=h x hx;rw[List.getD_eq_getElem?_getD,List.getElem?_eq_getElem hx]at this;exact this
end fQ
namespace gR
open Go.RowKit
open Oct
theorem wK (zs:List Int)(j:Nat)(hl:zs.length=512) : (cr zs).getD j 0=if 148<=j/\j<156 then 32 else zs.getD j 0:=by
 unfold cr lay;have ht: (zs.take 148).length=148:=by rw[List.length_take,hl];rfl
 have h8:=fD;simp only[List.getD_eq_getElem?_getD];by_cases h1:j<148
 ·rw[List.getElem?_append_left (by omega),if_neg (by omega),List.getElem?_take,if_pos h1]
 ·rw[List.getElem?_append_right (by omega),ht];by_cases h2:j<156
  ·rw[List.getElem?_append_left (by omega),if_pos (by omega)];have:∀i,i<8-> (Cr[i]?).getD 0=32:=by decide
   exact this _ (by omega)
  ·rw[List.getElem?_append_right (by omega),if_neg (by omega),List.getElem?_drop,h8,show 148+8+ (j- 148- 8) =j by omega]
theorem Bu (a:Option Addr)(cap:Nat)(zs:List Int)(w:World)(hl:zs.length=512)(hb:BytesIn w a zs) :
 Calls Tryz.prog 180 #[.slice a 512 cap] w fun e w'=>e= .returned (.tuple #[.int .i64 (iY zs),.int .i64 0])/\w=w':=by
 obtain⟨b,off,rfl,_,hr⟩:∃b off,a=some ⟨b,off,none⟩/\b<w.heap.size/\aO w b off zs:=by
  rcases hb with hb|hb
  ·rw[hb]at hl;cases hl
  ·exact hb
 have hbb:Bytes zs:=hr.2;have BD:=aa (lj (kQ hbb));have HN:=aa (fc hl);have HA:=aa (fun j=>wK zs j hl);have HL:=aa hl;have HR:=aa hr;go_enter Tryz.func180,Tryz.ntmps180;go_wp2;go_loop [4,5] (fun n i=>∃j:Nat,j<=512/\i= .int .i64 j/\n= .int .i64 ((cr zs).take j).sum) (fun _ i=>512- (intOf i).toNat)
 case atStart=>exact⟨0,Nat.zero_le _,rfl,rfl⟩
 case round=>
  obtain⟨j,hj,rfl,rfl⟩:=hrel;obtain⟨d0,d1⟩:=BD.out j;by_cases hlt:j<512
  ·obtain⟨c,(HC:Hid _),c0,c1,hcj⟩:=HR.out.get j (by rw[HL.out];exact hlt);obtain⟨S,hS⟩:=named ((cr zs).take j).sum;rw[<- hS.out]at d0 d1⊢;have hlt': (j:Int) <512:=by omega
   by_cases h1:148<=j
   ·have h1': (148:Int)<=j:=by omega
    by_cases h2:j<156
    ·have h2': (j:Int) <156:=by omega
     have HS:Hid (((cr zs).take (j+1)).sum=S+32) :=by
      show _=_;rw[eN (by rw[HN.out];exact hlt),hS.out,HA.out,if_pos ⟨h1,h2⟩]
     go_wp2
     go_round
     case rel=>exact⟨j+1,by omega,by go_num,by rw[HS.out]⟩
     case measure=>simp[intOf];omega
    ·have h2':¬(j:Int) <156:=by omega
     have HS:Hid (((cr zs).take (j+1)).sum=S+c) :=by
      show _=_;rw[eN (by rw[HN.out];exact hlt),hS.out,HA.out,if_neg (by omega),HC.out]
     go_wp2
     go_round
     case rel=>exact⟨j+1,by omega,by go_num,by rw[HS.out]⟩
     case measure=>simp[intOf];omega
   ·have h1':¬(148:Int)<=j:=by omega
    have HS:Hid (((cr zs).take (j+1)).sum=S+c) :=by
     show _=_;rw[eN (by rw[HN.out];exact hlt),hS.out,HA.out,if_neg (by omega),HC.out]
    go_wp2
    go_round
    case rel=>exact⟨j+1,by omega,by go_num,by rw[HS.out]⟩
    case measure=>simp[intOf];omega
  ·obtain rfl:j=512:=by omega
   go_wp2;go_ret2;exact⟨by rw[List.take_of_length_le (by rw[HN.out];exact aj)];rfl,rfl⟩
theorem vQ (a:Option Addr)(cap:Nat)(zs:List Int)(w:World)(hl:zs.length=512)(hb:BytesIn w a zs)(hc:512<=cap) :
 Calls Tryz.prog 123 #[.slice a 512 cap] w (wG (bJ zs) 512 0 w) :=by
 obtain⟨b,off,rfl,hlt,hr⟩:∃b off,a=some ⟨b,off,none⟩/\b<w.heap.size/\aO w b off zs:=by
  rcases hb with hb|hb
  ·rw[hb]at hl;cases hl
  ·exact hb
 have hz:Bytes zs:=hr.2;have HL:=aa hl;clear hl;have HB:=aa hb;clear hb;have HR:=aa hr;clear hr;have HZ:=aa hz;clear hz;have HLT:=aa hlt;clear hlt;obtain⟨i0,HI⟩:=dx Tryz.kS;have HT:=aa xz;have c1:¬cap=0:=by omega
 have c2:¬cap=156:=by omega
 have c3:¬cap<148:=by omega
 have c4:148<=cap:=by omega
 go_enter Tryz.func123,Tryz.ntmps123;go_wp2_with fail;refine(Bu _ cap zs _ HL.out HB.out).mono ?_;rintro e w1 ⟨rfl,rfl⟩;obtain⟨n,hn⟩:=named (iY zs);have FN:Hid (0<=n/\n<=mx 6) :=by show _/\_;rw[hn.out];exact oW HZ.out HL.out
 rw[<- hn.out];go_wp2_with fail;refine(jN n 7 6 _ (by decide) (by decide) (by decide) FN.out.1 FN.out.2).mono ?_;rintro e w1 ⟨b1,cp1,rfl,hrow1,hlt1,hb1⟩;have R1:=aa hrow1;have B1:=aa hb1;have L1:=aa hlt1;clear hrow1 hb1 hlt1;have Z1:=aa B1.out.size;have D1:Hid (BytesIn w1 (some ⟨b1,0,none⟩) (cL 6 n)) := .cH R1.out L1.out;have X1:Hid (BytesIn w1 (some ⟨b,off,none⟩) (zs.take 148)) := .inr ⟨b,off,rfl,Nat.lt_of_lt_of_le HLT.out Z1.out,(HR.out.below B1.out HLT.out).take 148⟩;have Y1:Hid (BytesIn w1 (some ⟨b,off+156,none⟩) (zs.drop 156)) := .inr ⟨b,off+156,rfl,Nat.lt_of_lt_of_le HLT.out Z1.out,(HR.out.below B1.out HLT.out).drop 156⟩;go_wp2_with (first| (refine lB rfl 25 5 rfl Tryz.underlying25 HT.out.elem ?_;intro w2 h2 b2;have O2:=aa h2;have B2:=aa b2;clear h2 b2;have Z2:=aa B2.out.size) | (at_builtin;refine bO rfl _ _ 25 rfl w1.heap.size 5 i0 Tryz.underlying25 HI (.slice (some ⟨w1.heap.size,0,none⟩) 0 0) 0 [] rfl O2.out (some ⟨b,off,none⟩) 148 cap (zs.take 148) rfl (X1.out.below B2.out) (by rw[List.length_take,HL.out];rfl) (by decide) Z2.out ?_;intro v3 w3 h3 b3;have O3:=aa h3;have B3:=aa (B2.out.trans b3);clear h3 b3;have Z3:=aa B3.out.size) | (at_builtin;refine bO rfl _ _ 25 rfl w1.heap.size 5 i0 Tryz.underlying25 HI v3 _ _ rfl O3.out (some ⟨b1,0,none⟩) 7 cp1 (cL 6 n) rfl (D1.out.below B3.out) (aU _ _) (by decide) Z3.out ?_;intro v4 w4 h4 b4;have O4:=aa h4;have B4:=aa (B3.out.trans b4);clear h4 b4;have Z4:=aa B4.out.size) | (refine cK rfl 25 5 _ rfl Tryz.underlying25 Tryz.kS 32 rfl (by decide) ?_;intro w5 h5 b5;have A5:=aa h5;have O5:=aa (jH O4.out b5 aj);have B5:=aa (B4.out.trans (b5.mono Z4.out));clear h5 b5;have Z5:=aa B5.out.size) | (at_builtin;refine bO rfl _ _ 25 rfl w1.heap.size 5 i0 Tryz.underlying25 HI v4 _ _ rfl O5.out (some ⟨w4.heap.size,0,none⟩) 1 1 [32] rfl A5.out.bytes rfl (by decide) Z5.out ?_;intro v6 w6 h6 b6;have O6:=aa h6;have B6:=aa (B5.out.trans b6);clear h6 b6;have Z6:=aa B6.out.size) | (at_builtin;refine bO rfl _ _ 25 rfl w1.heap.size 5 i0 Tryz.underlying25 HI v6 _ _ rfl O6.out (some ⟨b,off+156,none⟩) 356 (cap- 156) (zs.drop 156) rfl (Y1.out.below B6.out) (by rw[List.length_drop,HL.out]) (by decide) Z6.out ?_;intro v7 w7 h7 b7;have O7:=aa h7;have B7:=aa (B6.out.trans b7);clear h7 b7))
 have hz: [] ++zs.take 148++cL 6 n++ [32] ++zs.drop 156=bJ zs:=by
  rw[hn.out];unfold bJ lay ko;simp[aU]
 have o7:=O7.out;rw[hz]at o7;obtain⟨g,c,rfl,_,hg,hrow,hcc,hcm⟩:=xX o7 (by decide) (fC HZ.out);have G7:=aa hg;have R7:=aa hrow;have C7:=aa hcc;have M7:=aa hcm;clear o7 hrow hz hg hcc hcm;go_ret2;exact⟨_,_,rfl,R7.out,G7.out,B1.out.trans (B7.out.mono Z1.out),C7.out,M7.out⟩
theorem rN (a:Option Addr)(cap:Nat)(zs:List Int)(w:World)(hl:zs.length=512)(hb:BytesIn w a zs)(hc:512<=cap) :
 Calls Tryz.prog 123 #[.slice a 512 cap] w (fW (bJ zs) 512 0 w) := (vQ a cap zs w hl hb hc).mono fun _ _ h=>h.ret
theorem yX {xs ys:List Int}(hx:Bytes xs)(hy:Bytes ys)(h:¬xs=ys) :¬strOfNums xs=strOfNums ys:=fun e=>h (by
 rw[<- ak hx,<- ak hy,e])
end gR
end Go.Proofs.YtcjagakckffkiaaGreatDoor
