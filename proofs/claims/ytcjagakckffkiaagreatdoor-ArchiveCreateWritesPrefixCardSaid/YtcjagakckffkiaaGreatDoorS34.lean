import Derived.Test.YtcjagakckffkiaaGreatDoorS33
set_option maxHeartbeats 16000000
set_option maxRecDepth 100000
namespace Go.Proofs.YtcjagakckffkiaaGreatDoor
namespace Tre
open Go.RowKit Go.Proofs.YtcjagakckffkiaaGreatDoor.Fit Pnm
theorem lP.copy {B:Nat}{w w0:World}{z:aP}{a:Option Addr}{cap:Nat}(h:lP w0 z)(hf:gx B w ⟨z.n,a,cap⟩) :lP w ⟨z.n,a,cap⟩:=by
 obtain⟨b,cap',hv,hi,hc,hm,hl,hx⟩:=bj hf;injection hv with e1 _ e3;obtain rfl:a=b:=e1;obtain rfl:cap=cap':=e3;refine⟨h.k,h.p,h.m,h.t,⟨rfl,hc,hm,h.d.2.2.2.1,?_⟩,h.l,h.c⟩;rcases Nat.eq_zero_or_pos z.n.d.length with h0|h0
 ·exact .inl h0
 ·obtain⟨b',off,rfl,hlt⟩:=hi.plain h0;exact .inr ⟨b',off,rfl,hlt,fun i hi'=>hi.get i hi'⟩
theorem gx.kept {C g:Nat}{w w':World}{u:aP}(h:gx C w u)(hr:∃cur,w.heap[g]? =some (.cells cur 77 (0,0)))(hk:∀k,k<w.heap.size->k≠g->w'.heap[k]? =w.heap[k]?) :gx C w' u:=by
 obtain⟨h1,h2⟩:=h;refine⟨h1,h2.imp id ?_⟩;rintro⟨b,cap,cur',hv,hb,hh,r⟩;have hlt:b<w.heap.size:= (Array.getElem?_eq_some_iff.1 hh).1
 have hne:b≠g:=by
  rintro rfl;obtain⟨cur,hr⟩:=hr;rw[hh]at hr;injection hr with hr;injection hr with _ h _;exact absurd h (by decide)
 exact⟨b,cap,cur',hv,hb,(hk b hlt hne).trans hh,r⟩
theorem yU (l:List Nd)(x:Nd) :eD (l++ [x]) =ju (eD l) x:=by unfold eD tf;rw[List.foldl_append];rfl
theorem xN (ys:List aP)(n:Nat) :ax (ys.take n) = (ax ys).take n:=by unfold ax;rw[List.map_take]
theorem xM (ys:List aP)(n:Nat) :ax (ys.drop n) = (ax ys).drop n:=by unfold ax;rw[List.map_drop]
theorem mR (xs ys:List aP) :ax (xs++ys) =ax xs++ax ys:=by unfold ax;rw[List.map_append]
structure zJ (C:Nat) (w0:World) (ys us:List aP) (j:Nat) (v:Value) (w:World) :Prop where
 own:w.ownsRow C 77 6 v j (bc us)
 eD:ax us=eD ((ax ys).take j)
 Ck:∀u∈us,gx C w u/\lP w u
 nT:Below C w0 w
 nil:j=0->v= .slice none 0 0
theorem zJ.next {C:Nat}{w0 w w':World}{ys us:List aP}{j:Nat}{v v':Value}(h:zJ C w0 ys us j v w)(hl:us.length=j){y:aP}(hy:ys[j]? =some y)(hb:Below w.heap.size w w'){x:aP}(hx:x.n=y.n)(hf:gx C w' x)(hn:lP w' x){K:Nat}(hK:bk (ax us) y.n j=K)
 (ho:w'.ownsRow C 77 6 v' (j+1) (bc ((us.take K++ [x]) ++us.drop K)))(hC:Below C w w') :zJ C w0 ys ((us.take K++ [x]) ++us.drop K) (j+1) v' w':=by
 refine⟨ho,?_,fun u hu=>?_,h.nT.trans hC,fun h=>by omega⟩
 ·have e: (ax ys).take (j+1) = (ax ys).take j++ [y.n] :=by rw[List.take_add_one,eU hy];rfl
  rw[e,yU,<- h.eD,mR,mR,xN,xM];unfold ju;rw[aV,hl,hK,List.append_assoc];show _++ ([x.n] ++_) =_;rw[hx];rfl
 ·have old:∀u∈us,gx C w' u/\lP w' u:=fun u hu=>⟨bS (h.Ck u hu).1 hb aj,(h.Ck u hu).2.below hb⟩;rcases List.mem_append.1 hu with hu|hu
  ·rcases List.mem_append.1 hu with hu|hu
   ·exact old u (List.mem_of_mem_take hu)
   ·obtain rfl:=List.mem_singleton.1 hu;exact⟨hf,hn⟩
  ·exact old u (List.mem_of_mem_drop hu)
theorem sW (a:Option Addr)(n cap:Nat)(ys:List aP)(w:World)(ha:bA w a n cap ys)(h40:n<=1759218604441) :Calls Tryz.prog 27 #[.slice a n cap] w (Cu w n ys) :=by
 have HA:=aa ha;have NZ:=aa zH;have NO:=aa zF;have I6:=aa Ge;have I8:Hid ((Tryz.prog.info? 5).map (·.size) =some 1) :=by show _=_;obtain⟨i,h1,_,h2,_⟩:=Ct;simp[h1,h2]
 have U8:=aa Ct;obtain⟨i0,HI0⟩:=lH (P:=Tryz.prog) (e:=77) (z:= .agg (cg 0 emp 0 emp none 0 0 0).toArray) (s:=6) (b:=80) (by kernel_rfl);have S1:Hid ((Tryz.prog.info? 3).map (·.size) =some 1) :=by show _=_;kernel_rfl
 have S30:Hid ((Tryz.prog.info? 25).map (·.size) =some 1) :=by show _=_;kernel_rfl
 have I64:=aa Dd;have HN:=aa ha.n;have H40:=aa h40;have n40: (n:Int)<=1759218604441:=by omega
 clear ha h40;go_enter Tryz.func27,Tryz.ntmps27;go_wp2_with fail;go_loopw [4,3] (fun i v wr=>∃(j:Nat) (us:List aP) (va:Option Addr) (vc:Nat),i= .int .i64 j/\v= .slice va j vc/\j<=n/\zJ w.heap.size w ys us j (.slice va j vc) wr) (fun i _ _=>n- (intOf i).toNat)
 case atStart=>exact⟨0,[],none,0,rfl,rfl,Nat.zero_le _,⟨⟨rfl,.inl ⟨rfl,rfl⟩⟩,rfl,(fun _ h=>by cases h),au,fun _=>rfl⟩⟩
 case round=>
  obtain⟨wo,rfl⟩:∃wo,wo=wr:=⟨wr,rfl⟩;obtain⟨j,us,va,vc,rfl,rfl,hj,hR⟩:=hrel;by_cases hjn:j<n
  ·obtain⟨b,off,y,rfl,hb,hy,hf,hat⟩:=HA.out.get j hjn;have BC:Hid (w.heap.size<=wo.heap.size) :=hR.nT.size;have UL:Hid (us.length=j) :=by have:=hR.own.1;rw[dr]at this;show _=_;omega
   have hat':=hat.below hR.nT hb;obtain⟨c0,c1,c2,c3,c4,c5⟩:=hat'.c hy;have HR:=aa hR;have HY:=aa hy;have IK:=aa (hf.below hR.nT).d.vv;have PS:=aa hf.p;have DL:=aa hf.l;have HF:=aa (hf.below hR.nT);clear hat hat' hf hy hb hR;obtain⟨⟨k,p,m,t,d,c⟩,x,xc⟩:=y;obtain⟨L,hL⟩:=named d.length;have c4':wo.cell? ⟨b,off+j*6+4,none⟩=some (.slice x L xc) :=by rw[hL.out];exact c4
   have DL:Hid (L<=140737488355328) :=by show _<=_;rw[hL.out];exact DL.out
   clear c4;have j1: (j:Int) <n:=by omega
   have JN:=aa hjn;clear hjn;go_wp2_with (first| (refine ag rfl 77 rfl (cg 0 emp 0 emp none 0 0 0) NZ.out ?_;intro w5 g5 b5;have G5:=aa g5;have B5:=aa b5;clear g5 b5 c0 c1 c2 c3 c4' c5) | (refine ae rfl 77 _ _ rfl wo.heap.size rfl (cg k p m t x L xc c) (cg 0 emp 0 emp none 0 0 0) rfl 77 G5.out NO.out.2 rfl (dK _ _ _ _ _ _ _ _) ?_;intro w6 g6 t6;have G6:=aa g6;have B6:=aa (B5.out.trans (t6.below aj));clear g6 t6) | (refine fo rfl 25 5 .u8 rfl Tryz.underlying25 I8.out ?_;intro w7 h7 b7;have O7:=aa h7;have B7:=aa b7;have G7:=aa (G6.out.below b7 G6.out.lt);have c4:=G7.out.get 4 rfl;clear h7 b7) | (at_builtin;refine cS rfl _ _ 25 rfl w6.heap.size 5 .u8 1 Tryz.underlying25 U8.out (.slice (some ⟨w6.heap.size,0,none⟩) 0 0) 0 [] rfl O7.out x L xc d rfl ((IK.out.below B6.out).below B7.out) hL.out.symm (by have:=DL.out;unfold maxLen;omega) (by have:=DL.out;omega) B7.out.size ?_;intro v8 w8 h8 b8;rw[Nat.zero_add,List.nil_append]at h8;obtain⟨a8,c8,hv8,_⟩:=bj h8;subst hv8;have O8:=aa h8;have B8:=aa b8;have G8:=aa (G7.out.below (B8.out.mono aj) G6.out.lt);clear h8 b8) | (refine al rfl 25 _ _ rfl wo.heap.size 4 rfl (.slice a8 L c8) rfl rfl S30.out 77 (cg k p m t x L xc c) G8.out (by show 4<6;omega) ?_;intro w9 g9 t9;have G9:Hid (an w9 wo.heap.size 77 (cg k p m t a8 L c8 c)) :=g9;have T9:=aa t9;clear g9 t9));have B9:Hid (Below wo.heap.size wo w9) := ((B6.out.trans (B7.out.mono B6.out.size)).trans (B8.out.mono B6.out.size)).trans (T9.out.below aj)
   have O9:Hid (gx w.heap.size w9 ⟨⟨k,p,m,t,d,c⟩,a8,c8⟩) :=by
    unfold gx;show w9.ownsRow _ _ 1 (.slice a8 d.length c8) d.length (d.map (.int .u8));rw[<- hL.out];exact gn (aH O8.out T9.out G6.out.lt) (by have:=BC.out;have:=B6.out.size;omega)
   have NF9:Hid (lP w9 ⟨⟨k,p,m,t,d,c⟩,a8,c8⟩) :=HF.out.copy O9.out;clear c4 B5 B6 B7 B8 T9 O7 O8 G5 G6 G7 G8 IK HF;by_cases hj0:j=0
   ·subst hj0;obtain rfl:us= [] :=List.length_eq_zero_iff.1 UL.out;have hv:=HR.out.nil rfl;injection hv with e1 _ e3;subst e1;subst e3;go_loopw [6] (fun u wq=>u= .int .i64 0/\Below w9.heap.size w9 wq) (fun _ _=>0)
    case atStart=>exact⟨rfl,au⟩
    case round=>
     obtain⟨rfl,hq⟩:=hrel;have HQ:=aa hq;clear hq;go_wp2_with fail;refine aq (S:=fun w'=>Below w9.heap.size w9 w') (by kernel_rfl) (by kernel_rfl) HQ.out.drew ?_;intro hne'
     repeat (go_big_quiet_step (fail))
     refine wpQuiet_nil ?_;rintro wq2 ⟨q,rfl⟩;have QB:=aa q.h;obtain⟨wx,hwx⟩:∃wx,wx=q.w:=⟨_,rfl⟩;rw[<- hwx]at QB⊢;clear hwx;have KJ:Hid (0<=0) :=aj;have IT:Hid (∀q,Below wo.heap.size wo q->cw q none (([] :List aP).take 0)) :=fun q hq=> .inl rfl;have ID:Hid (∀q,Below wo.heap.size wo q->cw q none (([] :List aP).drop 0)) :=fun q hq=> .inl rfl;have BK:Hid (bk (ax []) (⟨k,p,m,t,d,c⟩:Nd) 0=0) :=rfl;have LT:Hid ((([] :List aP).take 0).length=0) :=by show _=_;rw[List.length_take,UL.out];have:=KJ.out;omega
     have LD:Hid ((([] :List aP).drop 0).length=0- 0) :=by show _=_;rw[List.length_drop,UL.out]
     have GQ:Hid (an wx wo.heap.size 77 (cg k p m t a8 L c8 c)) :=G9.out.below QB.out G9.out.lt;have BQ:Hid (Below wo.heap.size wo wx) :=B9.out.trans (QB.out.mono B9.out.size);go_wp2_with (first| (refine ed rfl 22 77 rfl Tryz.underlying22 _ I6.out ?_;intro w11 h11 b11;have O11:=aa h11;have B11:=aa b11;have X11:=aa (BQ.out.trans (b11.mono BQ.out.size));clear h11 b11) | (at_builtin;refine bf rfl _ _ 22 rfl 77 wx.heap.size i0 _ Tryz.underlying22 HI0 rfl (.slice (some ⟨wx.heap.size,0,none⟩) 0 0) 0 [] rfl O11.out none 0 0 (([] :List aP).take 0) rfl (IT.out _ X11.out) LT.out (by have:=KJ.out;have:=JN.out;have:=H40.out;omega) B11.out.size ?_;intro v12 w12 h12 b12 _ _;rw[Nat.zero_add,List.nil_append]at h12;have O12:=aa h12;have B12:=aa (B11.out.trans b12);have X12:=aa (BQ.out.trans (B12.out.mono BQ.out.size));have G12:=aa (GQ.out.below B12.out GQ.out.lt);have z0:=G12.out.get 0 rfl;have z1:=G12.out.get 1 rfl;have z2:=G12.out.get 2 rfl;have z3:=G12.out.get 3 rfl;have z4:=G12.out.get 4 rfl;have z5:=G12.out.get 5 rfl;clear h12 b12) | (refine fI rfl 22 77 _ rfl Tryz.underlying22 _ I6.out ⟨⟨k,p,m,t,d,c⟩,a8,c8⟩ (by show _=Value.agg (cg k p m t a8 d.length c8 c).toArray;rw[<- hL.out];rfl) ?_;intro w13 h13 b13;have G13:=aa h13;have B13:=aa (B12.out.trans (b13.mono B12.out.size));have X13:=aa (BQ.out.trans (B13.out.mono BQ.out.size));have O13:=aa (bS O12.out b13 aj);clear h13 b13 z0 z1 z2 z3 z4 z5) | (at_builtin;refine bf rfl _ _ 22 rfl 77 wx.heap.size i0 _ Tryz.underlying22 HI0 rfl v12 0 (([] :List aP).take 0) rfl O13.out (some ⟨w12.heap.size,0,none⟩) 1 1 [⟨⟨k,p,m,t,d,c⟩,a8,c8⟩] rfl (.inr ⟨_,0,rfl,G13.out.lt,.of_cells G13.out⟩) rfl (by have:=KJ.out;have:=JN.out;have:=H40.out;omega) B13.out.size ?_;intro v14 w14 h14 b14 _ _;have O14:=aa h14;have B14:=aa (B13.out.trans b14);have X14:=aa (BQ.out.trans (B14.out.mono BQ.out.size));clear h14 b14) | (at_builtin;refine bf rfl _ _ 22 rfl 77 wx.heap.size i0 _ Tryz.underlying22 HI0 rfl v14 (0+1) (([] :List aP).take 0++ [⟨⟨k,p,m,t,d,c⟩,a8,c8⟩]) rfl O14.out none (0- 0) 0 (([] :List aP).drop 0) rfl (ID.out _ X14.out) LD.out (by have:=KJ.out;have:=JN.out;have:=H40.out;omega) B14.out.size ?_;intro v15 w15 h15 b15 _ _;rw[show 0+1+ (0- 0) =0+1 by have:=KJ.out;omega]at h15;obtain⟨va',vc',hv15,_⟩:=cw.bG h15;subst hv15;have O15:=aa h15;have B15:=aa (B14.out.trans b15);have X15:=aa (BQ.out.trans (B15.out.mono BQ.out.size));clear h15 b15;(try simp only[Act.put,bw,bx,bz])))
     go_round
     case rel=>exact⟨0+1,_,va',vc',by go_num,rfl,by have:=JN.out;omega,HR.out.next UL.out HY.out X15.out (x:=⟨⟨k,p,m,t,d,c⟩,a8,c8⟩) rfl (bS O9.out (QB.out.trans (B15.out.mono QB.out.size)) aj) (NF9.out.below (QB.out.trans (B15.out.mono QB.out.size))) (K:=0) BK.out (ky O15.out (by have:=BQ.out.size;have:=BC.out;omega)) (X15.out.mono BC.out)⟩
     case measure=>simp[intOf];have:=JN.out;omega
   ·have J0:Hid (0<j) :=Nat.pos_of_ne_zero hj0;obtain⟨g,gc,hv,hgc,hgm,hgB,hgl,hgat,_⟩:=pS HR.out.own hj0;injection hv with e1 _ e3;subst e1;subst e3;have GA:Hid (∀q,Below wo.heap.size wo q->bY q g 0 us) :=fun q hq=>hgat.below hq hgl;have GI:Hid (∀q,Below wo.heap.size wo q->cw q (some ⟨g,0,none⟩) us) :=fun q hq=> .inr ⟨g,0,rfl,Nat.lt_of_lt_of_le hgl hq.size,GA.out q hq⟩;have jgc: (j:Int)<=vc:=by omega
    have gcm: (vc:Int)<=9223372036854775807:=by unfold maxLen at hgm;omega
    have jm: (j:Int)<=1759218604441:=by have:=JN.out;have:=H40.out;omega
    have FU:=aa HR.out.Ck;clear hgc hgm hgB hgl hgat hj0;go_loopw [6] (fun u wq=>∃K:Nat,u= .int .i64 K/\K<=j/\bk (ax us) (⟨k,p,m,t,d,c⟩:Nd) j=bk (ax us) ⟨k,p,m,t,d,c⟩ K/\Below w9.heap.size w9 wq) (fun u _=> (intOf u).toNat)
    case atStart=>exact⟨j,rfl,aj,rfl,au⟩
    case round=>
     obtain⟨K,rfl,hK,hbk,hq⟩:=hrel;have HQ:=aa hq;have BKK:=aa hbk;clear hq hbk;by_cases hK0:K=0
     ·subst hK0;clear hK;go_wp2_with fail;refine aq (S:=fun w'=>Below w9.heap.size w9 w') (by kernel_rfl) (by kernel_rfl) HQ.out.drew ?_;intro hne'
      repeat (go_big_quiet_step (fail))
      refine wpQuiet_nil ?_;rintro wq2 ⟨q,rfl⟩;have QB:=aa q.h;obtain⟨wx,hwx⟩:∃wx,wx=q.w:=⟨_,rfl⟩;rw[<- hwx]at QB⊢;clear hwx;have KJ:Hid (0<=j) :=Nat.zero_le _;have BK:Hid (bk (ax us) (⟨k,p,m,t,d,c⟩:Nd) j=0) :=BKK.out;have vc0:¬vc=0:=by have:=J0.out;omega
      have IT:Hid (∀q,Below wo.heap.size wo q->cw q (some ⟨g,0,none⟩) (us.take 0)) :=fun q hq=> (GI.out q hq).take 0;have ID:Hid (∀q,Below wo.heap.size wo q->cw q (some ⟨g,0,none⟩) (us.drop 0)) :=fun q hq=>by rw[List.drop_zero];exact GI.out q hq
      have LT:Hid ((us.take 0).length=0) :=by show _=_;rw[List.length_take,UL.out];have:=KJ.out;omega
      have LD:Hid ((us.drop 0).length=j- 0) :=by show _=_;rw[List.length_drop,UL.out]
      have GQ:Hid (an wx wo.heap.size 77 (cg k p m t a8 L c8 c)) :=G9.out.below QB.out G9.out.lt;have BQ:Hid (Below wo.heap.size wo wx) :=B9.out.trans (QB.out.mono B9.out.size);go_wp2_with (first| (refine ed rfl 22 77 rfl Tryz.underlying22 _ I6.out ?_;intro w11 h11 b11;have O11:=aa h11;have B11:=aa b11;have X11:=aa (BQ.out.trans (b11.mono BQ.out.size));clear h11 b11) | (at_builtin;refine bf rfl _ _ 22 rfl 77 wx.heap.size i0 _ Tryz.underlying22 HI0 rfl (.slice (some ⟨wx.heap.size,0,none⟩) 0 0) 0 [] rfl O11.out (some ⟨g,0,none⟩) 0 vc (us.take 0) rfl (IT.out _ X11.out) LT.out (by have:=KJ.out;have:=JN.out;have:=H40.out;omega) B11.out.size ?_;intro v12 w12 h12 b12 _ _;rw[Nat.zero_add,List.nil_append]at h12;have O12:=aa h12;have B12:=aa (B11.out.trans b12);have X12:=aa (BQ.out.trans (B12.out.mono BQ.out.size));have G12:=aa (GQ.out.below B12.out GQ.out.lt);have z0:=G12.out.get 0 rfl;have z1:=G12.out.get 1 rfl;have z2:=G12.out.get 2 rfl;have z3:=G12.out.get 3 rfl;have z4:=G12.out.get 4 rfl;have z5:=G12.out.get 5 rfl;clear h12 b12) | (refine fI rfl 22 77 _ rfl Tryz.underlying22 _ I6.out ⟨⟨k,p,m,t,d,c⟩,a8,c8⟩ (by show _=Value.agg (cg k p m t a8 d.length c8 c).toArray;rw[<- hL.out];rfl) ?_;intro w13 h13 b13;have G13:=aa h13;have B13:=aa (B12.out.trans (b13.mono B12.out.size));have X13:=aa (BQ.out.trans (B13.out.mono BQ.out.size));have O13:=aa (bS O12.out b13 aj);clear h13 b13 z0 z1 z2 z3 z4 z5) | (at_builtin;refine bf rfl _ _ 22 rfl 77 wx.heap.size i0 _ Tryz.underlying22 HI0 rfl v12 0 (us.take 0) rfl O13.out (some ⟨w12.heap.size,0,none⟩) 1 1 [⟨⟨k,p,m,t,d,c⟩,a8,c8⟩] rfl (.inr ⟨_,0,rfl,G13.out.lt,.of_cells G13.out⟩) rfl (by have:=KJ.out;have:=JN.out;have:=H40.out;omega) B13.out.size ?_;intro v14 w14 h14 b14 _ _;have O14:=aa h14;have B14:=aa (B13.out.trans b14);have X14:=aa (BQ.out.trans (B14.out.mono BQ.out.size));clear h14 b14) | (at_builtin;refine bf rfl _ _ 22 rfl 77 wx.heap.size i0 _ Tryz.underlying22 HI0 rfl v14 (0+1) (us.take 0++ [⟨⟨k,p,m,t,d,c⟩,a8,c8⟩]) rfl O14.out (some ⟨g,0,none⟩) (j- 0) vc (us.drop 0) rfl (ID.out _ X14.out) LD.out (by have:=KJ.out;have:=JN.out;have:=H40.out;omega) B14.out.size ?_;intro v15 w15 h15 b15 _ _;rw[show 0+1+ (j- 0) =j+1 by have:=KJ.out;omega]at h15;obtain⟨va',vc',hv15,_⟩:=cw.bG h15;subst hv15;have O15:=aa h15;have B15:=aa (B14.out.trans b15);have X15:=aa (BQ.out.trans (B15.out.mono BQ.out.size));clear h15 b15;(try simp only[Act.put,bw,bx,bz])))
      go_round
      case rel=>exact⟨j+1,_,va',vc',by go_num,rfl,by have:=JN.out;omega,HR.out.next UL.out HY.out X15.out (x:=⟨⟨k,p,m,t,d,c⟩,a8,c8⟩) rfl (bS O9.out (QB.out.trans (B15.out.mono QB.out.size)) aj) (NF9.out.below (QB.out.trans (B15.out.mono QB.out.size))) (K:=0) BK.out (ky O15.out (by have:=BQ.out.size;have:=BC.out;omega)) (X15.out.mono BC.out)⟩
      case measure=>simp[intOf];have:=JN.out;omega
     ·obtain⟨Q,rfl⟩:∃Q,K=Q+1:=⟨K- 1,by omega⟩;have QJ:Hid (Q<j) :=by show _<_;omega
      have hul:Q<us.length:=by rw[UL.out];exact QJ.out
      obtain⟨u,eu⟩:∃u,u=us[Q] :=⟨_,rfl⟩;have huq:us[Q]? =some u:=by rw[eu];exact List.getElem?_eq_getElem hul
      have CU:Hid (∀q,Below wo.heap.size wo q->q.cell? ⟨g,Q*6+1,none⟩=some (.string u.n.p)) :=fun q hq=>by
       have:= ((GA.out q hq).c huq).2.1;rw[Nat.zero_add]at this;exact this
      have UP:Hid (u.n.p.size<=maxLen) :=by have:= (FU.out u (List.mem_of_getElem? huq)).2.p;show _<=_;unfold maxLen;omega
      obtain⟨up,eup⟩:=named u.n.p;rw[<- eup.out]at CU UP;obtain⟨Z,hZ⟩:=named (aR (ad up) (ad p));have RC:Hid (∀q:World,Calls Tryz.prog 51 #[.string up,.string p] q fun e w'=>e= .returned (.int .i64 Z)/\Below q.heap.size q w') :=fun q=>by rw[hZ.out];exact rF up p q UP.out
      have BS:Hid (bk (ax us) (⟨k,p,m,t,d,c⟩:Nd) (Q+1) =if 0<Z then bk (ax us) ⟨k,p,m,t,d,c⟩ Q else Q+1) :=by
       show _=_;rw[bk,eU huq,hZ.out,eup.out];rfl
      have B9q:Hid (∀q:Of (fun w'=>Below w9.heap.size w9 w'),Below wo.heap.size wo q.w) :=fun q=>B9.out.trans (q.h.mono B9.out.size);have y1:∀q:Of (fun w'=>Below w9.heap.size w9 w'),q.w.cell? ⟨g,Q*6+1,none⟩=some (.string up) :=fun q=>CU.out q.w (B9q.out q);have y2:∀q:Of (fun w'=>Below w9.heap.size w9 w'),q.w.cell? ⟨wo.heap.size,1,none⟩=some (.string p) :=fun q=> (G9.out.below q.h G9.out.lt).get 1 rfl;have hjaz': (0:Int) < (Q:Int) +1:=by omega
      have p0: (0:Int)<= (Q:Int) +1:=by omega
      have e0: ((Q:Int) +1).toNat=Q+1:=by omega
      have hwp:IntKind.i64.wrap (Q:Int) = (Q:Int) :=gw (by omega) (by have:=QJ.out;omega);have jz1: (Q:Int) <j:=by have:=QJ.out;omega
      clear hK hul eu huq hZ eup hK0;by_cases hz:0<Z
      ·have BN:Hid (bk (ax us) (⟨k,p,m,t,d,c⟩:Nd) j=bk (ax us) ⟨k,p,m,t,d,c⟩ Q) :=by show _=_;rw[BKK.out,BS.out,if_pos hz]
       go_wp2_with fail;refine aq (S:=fun w'=>Below w9.heap.size w9 w') (by kernel_rfl) (by kernel_rfl) HQ.out.drew ?_;intro hne'
       repeat (go_big_quiet_step ((go_at_call 51;exact Calls.dX (RC.out _) fun w' hb q=>q.trans (hb.mono q.size))))
       refine wpQuiet_nil ?_;rintro wq2 ⟨q,rfl⟩;clear y1 y2;go_wp2_with fail
       go_round
       case rel=>exact⟨Q,by go_num,by have:=QJ.out;omega,BN.out,q.h⟩
       case measure=>simp[intOf]
      ·have BK:Hid (bk (ax us) (⟨k,p,m,t,d,c⟩:Nd) j=Q+1) :=by show _=_;rw[BKK.out,BS.out,if_neg hz]
       go_wp2_with fail;refine aq (S:=fun w'=>Below w9.heap.size w9 w') (by kernel_rfl) (by kernel_rfl) HQ.out.drew ?_;intro hne'
       repeat (go_big_quiet_step ((go_at_call 51;exact Calls.dX (RC.out _) fun w' hb q=>q.trans (hb.mono q.size))))
       refine wpQuiet_nil ?_;rintro wq2 ⟨q,rfl⟩;clear y1 y2;have QB:=aa q.h;obtain⟨wx,hwx⟩:∃wx,wx=q.w:=⟨_,rfl⟩;rw[<- hwx]at QB⊢;clear hwx;obtain⟨K,hKQ⟩:∃K,K=Q+1:=⟨_,rfl⟩;have kq: (Q:Int) +1= (K:Int) :=by omega
       have KJ:Hid (K<=j) :=by have:=QJ.out;show _<=_;omega
       have kj: (K:Int)<=j:=by have:=KJ.out;omega
       have kc: (K:Int)<=vc:=by omega
       have BK:Hid (bk (ax us) (⟨k,p,m,t,d,c⟩:Nd) j=K) :=by show _=_;rw[hKQ];exact BK.out
       rw[kq];clear hKQ kq hjaz' p0 e0 hwp jz1;obtain⟨AD,hAD⟩:∃AD:Option Addr,(if vc=K then some (⟨g,0,none⟩:Addr)else some ⟨g,K*6,none⟩) =AD:=⟨_,rfl⟩;have IT:Hid (∀q,Below wo.heap.size wo q->cw q (some ⟨g,0,none⟩) (us.take K)) :=fun q hq=> (GI.out q hq).take K
       have ID:Hid (∀q,Below wo.heap.size wo q->cw q AD (us.drop K)) :=fun q hq=>by
        rw[<- hAD];by_cases hc:vc=K
        ·rw[if_pos hc];have:us.drop K= [] :=List.drop_eq_nil_of_le (by rw[UL.out];have:=KJ.out;omega);exact .inl this
        ·rw[if_neg hc];have:= (GI.out q hq).drop K;rw[Nat.zero_add]at this;exact this
       have LT:Hid ((us.take K).length=K) :=by show _=_;rw[List.length_take,UL.out];have:=KJ.out;omega
       have LD:Hid ((us.drop K).length=j- K) :=by show _=_;rw[List.length_drop,UL.out]
       have GQ:Hid (an wx wo.heap.size 77 (cg k p m t a8 L c8 c)) :=G9.out.below QB.out G9.out.lt;have BQ:Hid (Below wo.heap.size wo wx) :=B9.out.trans (QB.out.mono B9.out.size);go_wp2_with (first| (refine ed rfl 22 77 rfl Tryz.underlying22 _ I6.out ?_;intro w11 h11 b11;have O11:=aa h11;have B11:=aa b11;have X11:=aa (BQ.out.trans (b11.mono BQ.out.size));clear h11 b11) | (at_builtin;refine bf rfl _ _ 22 rfl 77 wx.heap.size i0 _ Tryz.underlying22 HI0 rfl (.slice (some ⟨wx.heap.size,0,none⟩) 0 0) 0 [] rfl O11.out (some ⟨g,0,none⟩) K vc (us.take K) rfl (IT.out _ X11.out) LT.out (by have:=KJ.out;have:=JN.out;have:=H40.out;omega) B11.out.size ?_;intro v12 w12 h12 b12 _ _;rw[Nat.zero_add,List.nil_append]at h12;have O12:=aa h12;have B12:=aa (B11.out.trans b12);have X12:=aa (BQ.out.trans (B12.out.mono BQ.out.size));have G12:=aa (GQ.out.below B12.out GQ.out.lt);have z0:=G12.out.get 0 rfl;have z1:=G12.out.get 1 rfl;have z2:=G12.out.get 2 rfl;have z3:=G12.out.get 3 rfl;have z4:=G12.out.get 4 rfl;have z5:=G12.out.get 5 rfl;clear h12 b12) | (refine fI rfl 22 77 _ rfl Tryz.underlying22 _ I6.out ⟨⟨k,p,m,t,d,c⟩,a8,c8⟩ (by show _=Value.agg (cg k p m t a8 d.length c8 c).toArray;rw[<- hL.out];rfl) ?_;intro w13 h13 b13;have G13:=aa h13;have B13:=aa (B12.out.trans (b13.mono B12.out.size));have X13:=aa (BQ.out.trans (B13.out.mono BQ.out.size));have O13:=aa (bS O12.out b13 aj);clear h13 b13 z0 z1 z2 z3 z4 z5) | (at_builtin;refine bf rfl _ _ 22 rfl 77 wx.heap.size i0 _ Tryz.underlying22 HI0 rfl v12 K (us.take K) rfl O13.out (some ⟨w12.heap.size,0,none⟩) 1 1 [⟨⟨k,p,m,t,d,c⟩,a8,c8⟩] rfl (.inr ⟨_,0,rfl,G13.out.lt,.of_cells G13.out⟩) rfl (by have:=KJ.out;have:=JN.out;have:=H40.out;omega) B13.out.size ?_;intro v14 w14 h14 b14 _ _;have O14:=aa h14;have B14:=aa (B13.out.trans b14);have X14:=aa (BQ.out.trans (B14.out.mono BQ.out.size));clear h14 b14) | (at_builtin;refine bf rfl _ _ 22 rfl 77 wx.heap.size i0 _ Tryz.underlying22 HI0 rfl v14 (K+1) (us.take K++ [⟨⟨k,p,m,t,d,c⟩,a8,c8⟩]) rfl O14.out AD (j- K) (vc- K) (us.drop K) rfl (ID.out _ X14.out) LD.out (by have:=KJ.out;have:=JN.out;have:=H40.out;omega) B14.out.size ?_;intro v15 w15 h15 b15 _ _;rw[show K+1+ (j- K) =j+1 by have:=KJ.out;omega]at h15;obtain⟨va',vc',hv15,_⟩:=cw.bG h15;subst hv15;have O15:=aa h15;have B15:=aa (B14.out.trans b15);have X15:=aa (BQ.out.trans (B15.out.mono BQ.out.size));clear h15 b15;(try simp only[Act.put,bw,bx,bz])))
       go_round
       case rel=>exact⟨j+1,_,va',vc',by go_num,rfl,by have:=JN.out;omega,HR.out.next UL.out HY.out X15.out (x:=⟨⟨k,p,m,t,d,c⟩,a8,c8⟩) rfl (bS O9.out (QB.out.trans (B15.out.mono QB.out.size)) aj) (NF9.out.below (QB.out.trans (B15.out.mono QB.out.size))) (K:=K) BK.out (ky O15.out (by have:=BQ.out.size;have:=BC.out;omega)) (X15.out.mono BC.out)⟩
       case measure=>simp[intOf];have:=JN.out;omega
  ·obtain rfl:j=n:=by omega
   by_cases h0:j=0
   ·subst h0;obtain rfl:us= [] :=List.length_eq_zero_iff.1 (by have:=hR.own.1;rw[dr]at this;omega);obtain rfl:ys= [] :=List.length_eq_zero_iff.1 HN.out;have hv:=hR.nil rfl;injection hv with e1 _ e3;subst e1;subst e3;have BO:=aa hR.nT;clear hR hjn hj;go_wp2_with (first| (refine iJ rfl _ _ 32 3 .i64 8 rfl Tryz.underlying32 I64.out 0 rfl rfl (by decide) (Nat.zero_le _) ?_;intro w1 g1 b1;have B1:=aa (ar BO.out b1);clear g1 b1));go_loopw [10,9] (fun i l wq=>i= .int .i64 0/\l= .int .i64 0/\Below w.heap.size w wq) (fun _ _ _=>0)
    case atStart=>exact⟨rfl,rfl,Hid.out (by assumption)⟩
    case round=>
     obtain⟨w1,rfl⟩:∃w1,w1=wr:=⟨wr,rfl⟩;obtain⟨rfl,rfl,hb1⟩:=hrel;go_wp2_with fail;go_loopw [14] (fun i wq=>i= .int .i64 0/\wq=w1) (fun _ _=>0)
     case atStart=>exact⟨rfl,rfl⟩
     case round=>
      obtain⟨rfl,rfl⟩:=hrel;go_wp2;go_ret;exact⟨none,0,[],rfl,⟨rfl,aj,Nat.zero_le _,.inl rfl,(fun _ h=>by cases h)⟩,rfl,(fun _ h=>by cases h),(fun _ h=>by cases h),hb1⟩
   ·obtain⟨g,gc,hv,hgc,hgm,hgB,hgl,hgat,hgf⟩:=pS hR.own h0;injection hv with e1 _ e3;subst e1;subst e3;have UL:Hid (us.length=j) :=by have:=hR.own.1;rw[dr]at this;show _=_;omega
    have HR:=aa hR;have J0:Hid (0<j) :=Nat.pos_of_ne_zero h0;have GA:Hid (∀q,Below wo.heap.size wo q->bY q g 0 us) :=fun q hq=>hgat.below hq hgl;have GF:=aa hgf;have GL:=aa hgl;have HRG:Hid (w.heap.size<=g) :=hgB;have VC1:=aa hgc;have VC2:=aa hgm;have jgc: (j:Int)<=vc:=by omega
    have jm: (j:Int)<=1759218604441:=n40;obtain⟨S,hSS⟩:∃S,S=cs (ax us) :=⟨_,rfl⟩;have SLN:Hid (S.length=j) :=by show _=_;rw[hSS];unfold cs;rw[List.length_map,aV,UL.out]
    have SS:=aa hSS
    have C5:Hid (∀q,Below wo.heap.size wo q->∀K (h:K<S.length),q.cell? ⟨g,K*6+5,none⟩=some (.int .i64 S[K])) :=fun q hq K h=>by
     have hl:K<us.length:=by rw[UL.out,<- SLN.out];exact h
     have hu:=List.getElem?_eq_getElem hl;have h5:= ((GA.out q hq).c hu).2.2.2.2.2;rw[Nat.zero_add]at h5;rw[h5];have:S[K]? =some us[K].n.c:=by rw[hSS];unfold cs;rw[List.getElem?_map,eU hu];rfl
     rw[List.getElem?_eq_getElem h]at this;rw[Option.some.inj this]
    clear hR hjn hj hgc hgm hgB hgl hgat hgf h0 hSS;go_wp2_with (first| (refine iJ rfl _ _ 32 3 .i64 8 rfl Tryz.underlying32 I64.out j rfl rfl (by omega) (by unfold maxLen;omega) ?_;intro w1 g1 b1;have G1:=aa g1;have B1:=aa b1;clear g1 b1));go_loopw [10,9] (fun i l wq=>∃I:Nat,i= .int .i64 I/\l= .int .i64 (bC S I).length/\I<=j/\an wq wo.heap.size 3 ((po S I).map (.int .i64))/\Below wo.heap.size wo wq) (fun i _ _=>j- (intOf i).toNat)
    case atStart=>exact⟨0,rfl,rfl,Nat.zero_le _,by rw[wR,SLN.out];exact G1.out,B1.out⟩
    case round=>
     obtain⟨w2,rfl⟩:∃w2,w2=wr:=⟨wr,rfl⟩;obtain⟨I,rfl,rfl,hI,hO,hB⟩:=hrel;by_cases hIj:I<j
     ·have HO:=aa hO;have HB:=aa hB;have IS:Hid (I<S.length) :=by rw[SLN.out];exact hIj
      have c5:=C5.out w2 hB I IS.out;obtain⟨c,hc⟩:∃c,c=S[I]'IS.out:=⟨_,rfl⟩;have SC:=aa hc;rw[<- hc]at c5;obtain⟨X,hX⟩:∃X:Int,X= (if S[I]'IS.out∈bC S I then num S (S[I]'IS.out)else 0) :=⟨_,rfl⟩;have cx:w2.cell? ⟨wo.heap.size,I,none⟩=some (.int .i64 X) :=hO.get I (by rw[List.getElem?_map,pr S I IS.out,hX];rfl);have XN:Hid (X≠0↔c∈bC S I) :=by show _↔_;rw[hX,hc];exact Cy (Nat.le_of_lt IS.out) IS.out
      have j1: (I:Int) <j:=by omega
      have IJ:=aa hIj;obtain⟨N,hN⟩:=named (bC S I).length;have NL: (N:Int)<=1759218604441:=by have h:=qB (l:=S) (n:=I) (Nat.le_of_lt IS.out);rw[<- hN.out,SLN.out]at h;omega
      rw[<- hN.out]
      have STAY:Hid (¬cR S c\/c∈bC S I->∀q,an q wo.heap.size 3 ((po S I).map (.int .i64))->Below wo.heap.size wo q->∃I':Nat,Value.int .i64 ((I:Int) +1) = .int .i64 I'/\Value.int .i64 N= .int .i64 (bC S I').length/\I'<=j/\an q wo.heap.size 3 ((po S I').map (.int .i64))/\Below wo.heap.size wo q) :=fun h q ho hb=>by
       obtain⟨e1,e2⟩:=wQ IS.out (by rw[<- SC.out];exact h);exact⟨I+1,by go_num,by rw[e2,hN.out],by have:=IJ.out;omega,by rw[e1];exact ho,hb⟩
      clear hO hB hI hc hX hIj;by_cases hc0:c<=0
      ·have NM:Hid (¬cR S c) :=fun h=>by have:=h.1;omega
       go_wp2_with fail
       go_round
       case rel=>exact STAY.out (.inl NM.out) _ HO.out HB.out
       case measure=>simp[intOf];have:=IJ.out;omega
      ·by_cases hx0:X=0
       ·subst hx0;have NI:Hid (c∉bC S I) :=fun h=>XN.out.mpr h rfl;have E4:∀q:Of (fun w'=>Below w2.heap.size w2 w'),Below wo.heap.size wo q.w:=fun q=>HB.out.trans (q.h.mono HB.out.size);have E4H:=aa E4;clear E4;go_wp2_with fail;clear cx c5;go_loopw [12,11] (fun k m wq=>∃K:Nat,k= .int .i64 K/\K<=j/\m= .int .i64 ((S.take K).count c)/\Below w2.heap.size w2 wq) (fun k _ _=>j- (intOf k).toNat)
        case atStart=>exact⟨0,rfl,Nat.zero_le _,by simp,au⟩
        case round=>
         obtain⟨w3,rfl⟩:∃w3,w3=wr:=⟨wr,rfl⟩;obtain⟨K,rfl,hK,rfl,hq⟩:=hrel;have HQ:=aa hq;have ML:=aa (show(S.take K).count c<=K from Nat.le_trans List.count_le_length (by rw[List.length_take];omega));obtain⟨M,hM⟩:=named ((S.take K).count c);rw[<- hM.out]at ML⊢;clear hq;by_cases hKj:K<j
         ·have KS:Hid (K<S.length) :=by rw[SLN.out];exact hKj
          have kj: (K:Int) <j:=by omega
          have km: (M:Int)<=1759218604441:=by have:=ML.out;omega
          have CN:=aa (wU KS.out c);have y1:∀q:Of (fun w'=>Below w2.heap.size w2 w'),q.w.cell? ⟨g,K*6+5,none⟩=some (.int .i64 (S[K]'KS.out)) :=fun q=>C5.out q.w (E4H.out q) K KS.out;have y2:∀q:Of (fun w'=>Below w2.heap.size w2 w'),q.w.cell? ⟨g,I*6+5,none⟩=some (.int .i64 c) :=fun q=>by rw[SC.out];exact C5.out q.w (E4H.out q) I IS.out
          obtain⟨d,hd⟩:∃d,d=S[K]'KS.out:=⟨_,rfl⟩;rw[<- hd]at y1 CN;have KJ:=aa hKj;clear hd hK hKj;by_cases hdc:d=c
          ·subst hdc;have nd: (d==d) =true:=by simp
           rw[if_pos rfl]at CN;go_wp2_with fail;refine aq (S:=fun w'=>Below w2.heap.size w2 w') (by kernel_rfl) (by kernel_rfl) HQ.out.drew ?_;intro hne'
           repeat (go_big_quiet_step (fail))
           refine wpQuiet_nil ?_;rintro wq2 ⟨q,rfl⟩;clear y1 y2;go_wp2_with fail
           go_round
           case rel=>exact⟨K+1,by go_num,by have:=KJ.out;omega,by rw[CN.out,hM.out];go_num,q.h⟩
           case measure=>simp[intOf];have:=KJ.out;omega
          ·have nd: (d==c) =false:=by simpa using hdc
           rw[if_neg hdc]at CN;go_wp2_with fail;refine aq (S:=fun w'=>Below w2.heap.size w2 w') (by kernel_rfl) (by kernel_rfl) HQ.out.drew ?_;intro hne'
           repeat (go_big_quiet_step (fail))
           refine wpQuiet_nil ?_;rintro wq2 ⟨q,rfl⟩;clear y1 y2;go_wp2_with fail
           go_round
           case rel=>exact⟨K+1,by go_num,by have:=KJ.out;omega,by rw[CN.out,hM.out],q.h⟩
           case measure=>simp[intOf];have:=KJ.out;omega
         ·obtain rfl:K=j:=by omega
          have MC:Hid (M=S.count c) :=by show _=_;rw[hM.out,List.take_of_length_le (by rw[SLN.out];omega)]
          by_cases hm2:M<2
          ·have NM:Hid (¬cR S c) :=fun h=>by have:=h.2;have:=MC.out;omega
           have m2: (M:Int) <2:=by omega
           go_wp2_with fail
           go_round
           case rel=>exact STAY.out (.inl NM.out) _ (HO.out.below HQ.out HO.out.lt) (HB.out.trans (HQ.out.mono HB.out.size))
           case measure=>simp[intOf];have:=IJ.out;omega
          ·have MN:Hid (cR S c) :=⟨by omega,by have:=MC.out;omega⟩;have m2:¬(M:Int) <2:=by omega
           have O3:=aa (HO.out.below HQ.out HO.out.lt);have B3:=aa (HB.out.trans (HQ.out.mono HB.out.size));obtain⟨L1,hL1⟩:∃L1:Int,L1= (N:Int) +1:=⟨_,rfl⟩
           have FIN:Hid (sg S I L1 S.length=po S (I+1)/\L1= ((bC S (I+1)).length:Int)) :=by
            obtain⟨e1,e2⟩:=zP IS.out (by rw[<- SC.out];exact MN.out) (by rw[<- SC.out];exact NI.out);refine⟨by rw[hL1,hN.out];exact e1,by rw[e2,hL1,hN.out];omega⟩
           go_wp2_with fail;rw[<- hL1];clear hL1;go_loopw [13] (fun k wq=>∃K:Nat,k= .int .i64 K/\K<=S.length/\an wq wo.heap.size 3 ((sg S I L1 K).map (.int .i64))/\Below wo.heap.size wo wq) (fun k _=>S.length- (intOf k).toNat)
           case atStart=>exact⟨0,rfl,Nat.zero_le _,O3.out,B3.out⟩
           case round=>
            obtain⟨w4,rfl⟩:∃w4,w4=wr:=⟨wr,rfl⟩;obtain⟨K',rfl,hK',ho4,hb4⟩:=hrel;have O4:=aa ho4;have B4:=aa hb4;clear ho4 hb4;by_cases hK2:K'<S.length
            ·have KS:=aa hK2;have kj: (K':Int) <K:=by have:=SLN.out;omega
             have y1:∀q:Of (fun w'=>Below w4.heap.size w4 w'),q.w.cell? ⟨g,K'*6+5,none⟩=some (.int .i64 (S[K']'KS.out)) :=fun q=>C5.out q.w (B4.out.trans (q.h.mono B4.out.size)) K' KS.out;have y2:∀q:Of (fun w'=>Below w4.heap.size w4 w'),q.w.cell? ⟨g,I*6+5,none⟩=some (.int .i64 c) :=fun q=>by rw[SC.out];exact C5.out q.w (B4.out.trans (q.h.mono B4.out.size)) I IS.out
             obtain⟨d,hd⟩:∃d,d=S[K']'KS.out:=⟨_,rfl⟩;rw[<- hd]at y1
             have EQ:Hid (S[K']? =S[I]? ↔d=c) :=by
              show _↔_;rw[List.getElem?_eq_getElem KS.out,List.getElem?_eq_getElem IS.out,hd,SC.out];exact⟨fun h=>Option.some.inj h,fun h=>by rw[h]⟩
             have HQ4:Hid (Below w4.heap.size w4 w4.drew) :=au.drew;clear hd hK' hK2;by_cases hdc:d=c
             ·have ES:Hid (sg S I L1 (K'+1) = (sg S I L1 K').set K' L1) :=by show _=_;conv=>lhs;unfold sg;rw[if_pos (EQ.out.mpr hdc)]
              subst hdc;have nd: (d==d) =true:=by simp
              go_wp2_with fail;refine aq (S:=fun w'=>Below w4.heap.size w4 w') (by kernel_rfl) (by kernel_rfl) HQ4.out ?_;intro hne'
              repeat (go_big_quiet_step (fail))
              refine wpQuiet_nil ?_;rintro wq2 ⟨q,rfl⟩;clear y1 y2;obtain⟨w5,hw5⟩:∃w5,w5=q.w:=⟨_,rfl⟩;have B5:Hid (Below w4.heap.size w4 w5) :=by rw[hw5];exact q.h
              rw[<- hw5];clear hw5;have O5:=aa (O4.out.below B5.out O4.out.lt);go_wp2_with (first| (refine al rfl 3 _ _ rfl wo.heap.size K' rfl (.int .i64 L1) rfl rfl S1.out 3 ((sg S I L1 K').map (.int .i64)) O5.out (by rw[List.length_map,jk];exact KS.out) ?_;intro w6 g6 t6;rw[<- List.map_set,<- ES.out]at g6;have O6:=aa g6;have B6:=aa ((B4.out.trans (B5.out.mono B4.out.size)).trans (t6.below aj));clear g6 t6))
              go_round
              case rel=>exact⟨K'+1,by go_num,by have:=KS.out;omega,O6.out,B6.out⟩
              case measure=>simp[intOf];have:=KS.out;omega
             ·have ES:Hid (sg S I L1 (K'+1) =sg S I L1 K') :=by show _=_;conv=>lhs;unfold sg;rw[if_neg (fun h=>hdc (EQ.out.mp h))]
              have nd: (d==c) =false:=by simpa using hdc
              go_wp2_with fail;refine aq (S:=fun w'=>Below w4.heap.size w4 w') (by kernel_rfl) (by kernel_rfl) HQ4.out ?_;intro hne'
              repeat (go_big_quiet_step (fail))
              refine wpQuiet_nil ?_;rintro wq2 ⟨q,rfl⟩;clear y1 y2;go_wp2_with fail
              go_round
              case rel=>exact⟨K'+1,by go_num,by have:=KS.out;omega,by rw[ES.out];exact O4.out.below q.h O4.out.lt,B4.out.trans (q.h.mono B4.out.size)⟩
              case measure=>simp[intOf];have:=KS.out;omega
            ·obtain rfl:K'=S.length:=by omega
             have kn:¬((S.length:Nat) :Int) < (K:Int) :=by have:=SLN.out;omega
             go_wp2_with fail
             go_round
             case rel=>exact⟨I+1,by go_num,by rw[<- FIN.out.2],by have:=IJ.out;omega,by rw[<- FIN.out.1];exact O4.out,B4.out⟩
             case measure=>simp[intOf];have:=IJ.out;omega
       ·have nx: (X !=0) =true:=by simpa using hx0
        have IN:Hid (c∈bC S I) :=XN.out.mp hx0;go_wp2_with fail
        go_round
        case rel=>exact STAY.out (.inr IN.out) _ HO.out HB.out
        case measure=>simp[intOf];have:=IJ.out;omega
     ·obtain rfl:I=j:=by omega
      have O2:=aa hO;have B2:=aa hB;clear hO hB hI hIj;have ROWE:Hid (po S I=S.map (num S)) :=by show _=_;rw[<- SLN.out,zQ]
      have ROW:Hid (∃cur,wo.heap[g]? =some (.cells cur 77 (0,0))) :=by
       obtain⟨_,h⟩:=HR.out.own;rcases h with⟨h,_⟩|⟨g',cap',cur,hv,_,hh,_⟩
       ·cases h
       ·injection hv with h _ _;injection h with h;injection h with h;subst h;exact⟨cur,hh⟩
      go_wp2_with fail;go_loopw [14] (fun i wq=>∃(K:Nat) (vs:List aP),i= .int .i64 K/\K<=I/\vs.length=us.length/\ (∀k z,us[k]? =some z->vs[k]? =some (if k<K then⟨ka (ax us) z.n,z.a,z.cap⟩else z))/\bY wq g 0 vs/\ (∀k,wq.frozen? ⟨g,k,none⟩=false)/\an wq wo.heap.size 3 ((S.map (num S)).map (.int .i64))/\ (∀k,k<wo.heap.size->k≠g->wq.heap[k]? =wo.heap[k]?)/\Below w.heap.size w wq) (fun i _=>I- (intOf i).toNat)
      case atStart=>exact⟨0,us,rfl,Nat.zero_le _,rfl,(fun k z h=>by rw[if_neg (Nat.not_lt_zero k)];exact h),GA.out _ B2.out,ew GF.out (B2.out.block _ GL.out),by rw[<- ROWE.out];exact O2.out,(fun k h _=>B2.out.block k h),HR.out.nT.trans (B2.out.mono HR.out.nT.size)⟩
      case round=>
       obtain⟨w3,rfl⟩:∃w3,w3=wr:=⟨wr,rfl⟩;obtain⟨K,vs,rfl,hK,hvl,hvs,hat,hfz,ho,hbl,hbw⟩:=hrel;by_cases hKI:K<I
       ·have hul:K<us.length:=by rw[UL.out];exact hKI
        obtain⟨z,hz⟩:∃z,us[K]? =some z:=⟨_,List.getElem?_eq_getElem hul⟩;have hv:=hvs K z hz;rw[if_neg (Nat.lt_irrefl K)]at hv;have KS:Hid (S[K]? =some z.n.c) :=by show _=_;rw[SS.out];unfold cs;rw[List.getElem?_map,eU hz];rfl
        have cx:w3.cell? ⟨wo.heap.size,K,none⟩=some (.int .i64 (num S z.n.c)) :=ho.get K (by rw[List.getElem?_map,List.getElem?_map,KS.out];rfl);have VL:Hid (K<vs.length) :=by rw[hvl];exact hul
        obtain⟨Z,hZ⟩:∃Z,Z=num S z.n.c:=⟨_,rfl⟩;rw[<- hZ]at cx;have HZ:Hid (⟨{z.n with c:=Z},z.a,z.cap⟩= (⟨ka (ax us) z.n,z.a,z.cap⟩:aP)) :=by show _=_;unfold ka;rw[hZ,SS.out]
        have HV:=aa hv;have HAT:=aa hat;have HFZ:=aa hfz;have HO:=aa ho;have HBL:=aa hbl;have HBW:=aa hbw;have HVS:=aa hvs;have HVL:=aa hvl;have HUZ:=aa hz;have k1: (K:Int) <I:=by omega
        have KI:=aa hKI;have GW:Hid (w.heap.size<=g) :=HRG.out;clear hK hvl hvs hat hfz ho hbl hbw hKI hul hv hz hZ;go_wp2_with (first| (refine bh rfl 3 _ _ rfl g _ rfl (.int .i64 Z) rfl rfl S1.out vs K 5 z ⟨{z.n with c:=Z},z.a,z.cap⟩ (by omega) HV.out HAT.out HFZ.out rfl (mD z.n z.a z.cap Z) ?_;intro w4 a4 f4 t4;rw[HZ.out]at a4;have A4:=aa a4;have F4:=aa f4;have T4:=aa t4;clear a4 f4 t4))
        go_round
        case rel=>exact⟨K+1,_,by go_num,by have:=KI.out;omega,by rw[List.length_set];exact HVL.out,(fun k y hy=>by
         by_cases e:k=K
         ·subst e;obtain rfl:z=y:=Option.some.inj (HUZ.out.symm.trans hy);rw[List.getElem?_set_self VL.out,if_pos (by omega)]
         ·rw[List.getElem?_set_ne (fun h=>e h.symm),HVS.out k y hy];by_cases h:k<K
          ·rw[if_pos h,if_pos (by omega)]
          ·rw[if_neg h,if_neg (by omega)]),A4.out,F4.out,HO.out.aK T4.out (Nat.ne_of_gt GL.out),(fun k h1 h2=> (T4.out.other h2).trans (HBL.out k h1 h2)),HBW.out.trans (T4.out.below GW.out)⟩
        case measure=>simp[intOf];have:=KI.out;omega
       ·obtain rfl:K=I:=by omega
        have HAT:=aa hat;have HFZ:=aa hfz;have HBL:=aa hbl;have HBW:=aa hbw;have HVS:=aa hvs;have HVL:=aa hvl;clear hK hvl hvs hat hfz ho hbl hbw hKI;go_wp2;go_ret;have AT:=HAT.out;have FZ:=HFZ.out;have KB:=HBL.out;have BW:=HBW.out;have VS:=HVS.out;have VN:=HVL.out;have hus:=UL.out;have srt':ax us=eD (ax ys) :=by have:=HR.out.eD;rw[List.take_of_length_le (by rw[aV,HN.out];exact aj)]at this;exact this
        have each:∀v∈vs,∃z∈us,v=⟨ka (ax us) z.n,z.a,z.cap⟩:=fun v hv=>by
         obtain⟨k,hk,rfl⟩:=List.getElem_of_mem hv;have hl:k<us.length:=by rw[<- VN];exact hk
         have h:=VS k _ (List.getElem?_eq_getElem hl);rw[if_pos (by omega),List.getElem?_eq_getElem hk]at h;exact⟨_,List.getElem_mem hl,Option.some.inj h⟩
        have Ck:∀z∈us,gx w.heap.size _ ⟨ka (ax us) z.n,z.a,z.cap⟩:=fun z hz=> ((HR.out.Ck z hz).1.kept ROW.out KB:gx w.heap.size _ z);refine⟨some ⟨g,0,none⟩,vc,vs,rfl,⟨VN.trans hus,VC1.out,VC2.out,.inr ⟨g,0,rfl,?_,AT⟩,fun v hv=>?_⟩,?_,fun v hv=>?_,fun x hx=>?_,BW⟩
        ·refine Classical.byContradiction fun h=>?_;have h0:0<vs.length:=by rw[VN,hus];exact J0.out
         have hc:= (AT.c (List.getElem?_eq_getElem h0)).1;unfold World.cell? at hc;rw[Array.getElem?_eq_none (Nat.not_lt.mp h)]at hc
         cases hc
        ·obtain⟨z,hz,rfl⟩:=each v hv;refine(HR.out.Ck z hz).2.fresh (S:=ax us) rfl (Ck z hz) ?_;have:=xQ (cs (ax us)) z.n.c;have hl: (cs (ax us)).length=us.length:=by unfold cs;rw[List.length_map,aV]
         have:=H40.out;omega
        ·show ax vs= (eD (ax ys)).map (ka (eD (ax ys)));rw[<- srt'];refine List.ext_getElem? fun k=>?_;by_cases hk:k<us.length
         ·have h:=VS k _ (List.getElem?_eq_getElem hk);rw[if_pos (by omega)]at h;rw[eU h,List.getElem?_map,eU (List.getElem?_eq_getElem hk)];rfl
         ·rw[List.getElem?_eq_none (by rw[aV,VN];omega),List.getElem?_eq_none (by rw[List.length_map,aV];omega)]
        ·obtain⟨z,hz,rfl⟩:=each v hv;exact Ck z hz
        ·cases hx
         exact⟨HRG.out,rfl,FZ⟩
end Tre
end Go.Proofs.YtcjagakckffkiaaGreatDoor
