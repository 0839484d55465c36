import Derived.Test.YtcjagakckffkiaaGreatDoorQ29
import Derived.Test.YtcjagakckffkiaaGreatDoorQ25
import Derived.Test.YtcjagakckffkiaaGreatDoorQ1
import Derived.Test.YtcjagakckffkiaaGreatDoorQ5
import Derived.Test.YtcjagakckffkiaaGreatDoorQ15
import Derived.Maps.AppendAt
import Derived.Test.YtcjagakckffkiaaGreatDoorQ16
set_option maxHeartbeats 16000000
namespace Go.Proofs.YtcjagakckffkiaaGreatDoor.Flt
open Go.RowKit Go.MapKept Go.Proofs.YtcjagakckffkiaaGreatDoor.Fit Pnm Tre
def vv (w:World)(l:List Nd)(e:Ending)(w':World) :Prop:=
 ∃b k c us X1 X2,e= .returned (.tuple #[.slice b k c,.int .i64 X1,.int .i64 X2])/\X1= (dA l).1/\X2= (dA l).2/\jy w' b k c us/\qz us=iF l/\Below w.heap.size w w'/\ (∀x,b=some x->w.heap.size<=x.block)/\∀u∈us,∀x,u.a=some x->w.heap.size<=x.block
theorem vv.bad {w w':World}{l:List Nd}{X1 X2:Int}(h1:X1= (dA l).1)(h2:X2= (dA l).2)(h0:X2≠0)(hb:Below w.heap.size w w') :vv w l (.returned (.tuple #[.slice none 0 0,.int .i64 X1,.int .i64 X2])) w':=
 ⟨none,0,0,[],X1,X2,rfl,h1,h2,⟨rfl,ah,Nat.zero_le _,.inl rfl,fun _ h=>by cases h⟩,by unfold iF;rw[if_neg (by rw[<- h2];exact h0)];rfl,hb,fun x hx=> (by cases hx),fun _ h=> (by cases h)⟩
set_option maxRecDepth 100000 in
theorem sr (a:Option Addr)(n cap:Nat)(ys:List aL)(w:World)(V:dF w)(ha:br w a n cap ys)(h40:n<=1000) :Calls Tryz.prog 29 #[.slice a n cap] w (vv w (aI ys)) :=by
 have HA:=ad ha;have NZ:=ad Bm;have NO:=ad Cm;have MO:=ad Oy;have H40:=ad h40;have n40: (n:Int)<=1000:=by omega
 have HN:Hid ((aI ys).length=n) :=by show _=_;rw[bg];exact ha.n
 obtain⟨X1,hX1⟩:=named (dA (aI ys)).1;obtain⟨X2,hX2⟩:=named (dA (aI ys)).2
 have PC:Hid (Calls Tryz.prog 28 #[.slice a n cap] w fun e w''=>e= .returned (.tuple #[.int .i64 X1,.int .i64 X2])/\Below w.heap.size w w'') :=by
  show Calls _ _ _ _ _;rw[hX1.out,hX2.out];exact rq a n cap ys w V ha
 have ZS:Hid ((Tryz.prog.info? 9).map (·.zero) =some (some (.string emp))) :=by show _=_;kernel_rfl
 have UM:=ad Tryz.underlying116;have UK:=ad Tryz.underlying3;obtain⟨i0,HI0⟩:=qf (P:=Tryz.prog) (e:=70) (z:= .agg (fD 0 emp 0 emp 0 none 0 0).toArray) (s:=6) (b:=80) (by kernel_rfl);clear V ha h40;go_enter Tryz.func29,Tryz.ntmps29;go_wp2_with fail;refine PC.out.mono ?_;rintro e w1 ⟨rfl,b1⟩;have B1:=ad b1;clear b1 PC;by_cases hx:¬X2=0
 ·have nx: (X2 !=0) =true:=by simpa using hx
  go_wp2_with fail;go_ret3;exact .bad hX1.out hX2.out hx B1.out
 obtain rfl:X2=0:=Decidable.not_not.mp hx;clear hx;have VAL:Hid (Aw (aI ys)) :=rL.mp hX2.out.symm;obtain rfl:X1= (n:Int) :=by rw[hX1.out,zC VAL.out,HN.out]
 go_wp2_with (first| (refine pQ rfl _ _ 59 70 rfl Tryz.underlying59 i0 HI0 n rfl rfl (by have:=H40.out;omega) ?_;intro w2 g2 b2;have G2:=ad g2;have B2:=ad (ar B1.out b2);clear g2 b2) | (refine bH rfl _ rfl (.int .i64) ?_;intro w3 m3 b3;have M3:=ad m3;have G3:=ad (G2.out.below b3 G2.out.lt);have GM:=ad G2.out.lt;have B3:=ad (ar B2.out b3);clear m3 b3));refine(tf a n cap ys w3 (HA.out.below B3.out) H40.out).mono ?_;rintro e w4 ⟨c,cc,zs,rfl,hz,ez,hfr,hown,b4⟩;obtain⟨g,hg⟩:∃g,g=w1.heap.size:=⟨_,rfl⟩;obtain⟨m,hm⟩:∃m,m=w2.heap.size:=⟨_,rfl⟩;obtain⟨C,hC⟩:∃C,C=canon (aI ys) :=⟨_,rfl⟩;rw[<- hC]at ez;rw[<- hg]at G3 GM⊢;rw[<- hm]at M3 GM⊢;have CAN:Hid (Can C) :=by show Can C;rw[hC];exact oj VAL.out
 have CN:Hid (C.length=n) :=by show _=_;rw[hC,eZ,HN.out]
 have HC:=ad hC;have G4:=ad (G3.out.below b4 G3.out.lt);have M4:=ad (M3.out.below b4 M3.out.lt);have GW:Hid (w.heap.size<=g) :=by have:=B1.out.size;show _<=_;omega
 have MW:Hid (w.heap.size<=m) :=by have:=GW.out;have:=GM.out;show _<=_;omega
 have ML:Hid (m<w3.heap.size) :=M3.out.lt;have GL:Hid (g<w3.heap.size) :=G3.out.lt;have B4:=ad (ar B3.out b4);have HZ:=ad hz;have EZ:=ad ez;have FR:=ad hfr;have OW:=ad hown
 have SD:Hid (∀z∈zs,∀x,z.a=some x->¬(x.block=g\/x.block=m\/x.block<w.heap.size)) :=fun z hz' x hx=>by
  have:=Od (hfr z hz') x hx;have:=ML.out;have:=GL.out;have:=GW.out;omega
 have SC:Hid (∀x,c=some x->¬(x.block=g\/x.block=m)) :=fun x hx=>by
  have:= (hown x hx).1;have:=ML.out;have:=GL.out;omega
 have ncc: (n:Int)<=cc:=by have:=hz.c;omega
 clear hg hm hC hz ez hfr hown b4 G2 G3 M3 B1 B2 FR OW;go_wp2_with fail;go_loopw [28] (fun i wr=>∃(j N:Nat) (us:List ft) (F:Value->Option Value),i= .int .i64 j/\j<=n/\Rw (fun k=>k=g\/k=m\/k<w.heap.size) C w4 n us j/\ak wr g 70 (bZ us)/\dP wr m (.int .i64) N F/\Ht F C j/\aA (fun k=>k=g\/k=m) w4 wr) (fun i _=>n- (intOf i).toNat)
 case atStart=>exact⟨0,0,_,_,rfl,Nat.zero_le _,⟨by simp,fun i hi=>absurd hi (Nat.not_lt_zero i)⟩,G4.out,M4.out,Ht.zero C,aA.refl _ _⟩
 case round=>
  obtain⟨j,N,us,F,rfl,hj,hrw,hg,hm,hl,ho⟩:=hrel;by_cases hjn:j<n
  ·obtain⟨b,off,z,rfl,hb,hz,hf,hat⟩:=HZ.out.get j hjn;have HRW:=ad hrw;have HG:=ad hg;have HM:=ad hm;have HL:=ad hl;have HO:=ad ho;have HF:=ad hf;have JN:=ad hjn;have JC:Hid (j<C.length) :=by show _<_;rw[CN.out];exact hjn
   have UL:Hid (j<us.length) :=by show _<_;rw[hrw.len];exact hjn
   have ZC:Hid (nd C j=z.n) :=by
    show _=_;rw[<- EZ.out];exact oI hz
   obtain⟨c0,c1,c2,c3,c4,c5⟩:= (hat.block (ho.block b hb (SC.out _ rfl))).c hz;have SZ:=ad (SD.out z (List.mem_of_getElem? hz));have FS:Hid (F (.int .i64 z.n.c) = (fr C j (nd C j).c).map fun y=> .string y.p) :=by show _=_;rw[hl,ZC.out]
   clear hrw hg hm hl ho hf hat hz hb hjn hj;obtain⟨⟨k,p,mo,t,d,cl⟩,x,xc⟩:=z;obtain⟨L,hL⟩:=named d.length;have c4':wr.cell? ⟨b,off+j*6+4,none⟩=some (.slice x L xc) :=by rw[hL.out];exact c4
   clear c4;have j1: (j:Int) <n:=by have:=JN.out;omega
   have WG:=ad HG.out.lt;have WM:=ad HM.out.lt
   cases hfr:fr C j (nd C j).c with
   |some y=>
    have PY:Hid (y.p.size<=140737488355328) :=by
     obtain⟨r,hr,rfl,_⟩:=kP (Nat.le_of_lt JC.out) hfr;have hr':r< (aI zs).length:=by rw[EZ.out];have:=JC.out;omega
     rw[bg]at hr';show _<=_;rw[<- EZ.out,oI (List.getElem?_eq_getElem hr')];exact(HZ.out.s _ (List.getElem_mem hr')).p
    have EL:=ad (On (S:=fun k=>k=g\/k=m\/k<w.heap.size) ZC.out hfr HF.out PY.out);have LS:=ad (HL.out.stay JC.out (.inl ⟨y,hfr⟩));have hF:F (.int .i64 cl) =some (.string y.p) :=by have:=FS.out;rw[hfr]at this;exact this
    obtain⟨q,hq⟩:∃q,q=y.p:=⟨_,rfl⟩;rw[<- hq]at hF EL;have HFF:=ad hF;clear hF hq hfr FS;go_wp2_with (first| (refine ag rfl 77 rfl (bq 0 emp 0 emp none 0 0 0) NZ.out ?_;intro w5 g5 b5;have G5:=ad g5;have HG5:=ad (HG.out.below b5 HG.out.lt);have HM5:=ad (HM.out.below b5 HM.out.lt);have B5:=ad b5;clear g5 b5 c0 c1 c2 c3 c4' c5) | (refine ae rfl 77 _ _ rfl wr.heap.size rfl (bq k p mo t x L xc cl) (bq 0 emp 0 emp none 0 0 0) rfl 77 G5.out NO.out.2 rfl (bE _ _ _ _ _ _ _ _) ?_;intro w6 g6 t6;have HG6:=ad (HG5.out.aD t6 (Nat.ne_of_lt WG.out));have HM6:=ad (HM5.out.block (t6.other (Nat.ne_of_lt WM.out)));have G6:=ad g6;have B6:=ad (B5.out.trans (t6.below ah));have c0:=g6.get 0 rfl;have c1:=g6.get 1 rfl;have c2:=g6.get 2 rfl;have c3:=g6.get 3 rfl;have c4:=g6.get 4 rfl;have c5:=g6.get 5 rfl;have q1:= (bI (P:=Tryz.prog) (w:=w6) 116 3 9 UM.out (.int .i64) UK.out (.string emp) ZS.out m N (.int .i64 cl) (show IsKey (.int .i64) (.int .i64 cl)from rfl) F HM6.out).1;rw[HFF.out]at q1;simp only[Option.getD_some,Option.isSome_some]at q1;clear g6 t6));refine(BF k p mo t x L xc cl q w6).mono ?_;rintro e w7 ⟨rfl,b7⟩;have HG7:=ad (HG6.out.below b7 HG6.out.lt);have HM7:=ad (HM6.out.below b7 HM6.out.lt);have G7:=ad (G6.out.below b7 G6.out.lt);have O7:=ad (HO.out.trans (aA.aq (ar B6.out b7) ah));clear b7 c0 c1 c2 c3 c4 c5;go_wp2_with (first| (refine gm rfl 70 _ _ rfl g _ j rfl (by omega) ⟨⟨⟨3,p,mo,q,0⟩,[]⟩,none,0⟩ rfl MO.out.2 70 us HG7.out UL.out ?_;intro w8 g8 t8;have HG8:=ad g8;have HM8:=ad (HM7.out.block (t8.other (Ne.symm (Nat.ne_of_lt GM.out))));have O8:=ad (O7.out.trans (cX.only (S:=fun k=>k=g\/k=m) t8 (.inl rfl)));have G8:=ad (G7.out.aK t8 (Ne.symm (Nat.ne_of_lt WG.out)));have c0:=G8.out.get 0 rfl;have c1:=G8.out.get 1 rfl;have c5:=G8.out.get 5 rfl;clear g8 t8))
    go_round
    case rel=>exact⟨j+1,N,_,F,by go_num,by have:=JN.out;omega,HRW.out.next JN.out EL.out,HG8.out,HM8.out,LS.out,O8.out⟩
    case measure=>simp[intOf];have:=JN.out;omega
   |none=>
    have EL:=ad (MY (S:=fun k=>k=g\/k=m\/k<w.heap.size) CAN.out JC.out ZC.out hfr HF.out SZ.out);have hF:F (.int .i64 cl) =none:=by have:=FS.out;rw[hfr]at this;exact this
    have HFF:=ad hF;have eL:Hid ((Value.agg (fD k p mo t L x L xc).toArray) = .agg (lI ⟨⟨⟨k,p,mo,t,d.length⟩,d⟩,x,xc⟩).toArray) :=by show _=_;rw[hL.out]
    by_cases hc:0<cl
    ·have LS:Hid (Ht (rW F (.int .i64 cl) (.string p)) C (j+1)) :=by
      have h:=HL.out.more JC.out hfr (by rw[ZC.out];exact hc);rw[ZC.out]at h;exact h
     clear hF hfr FS;go_wp2_with (first| (refine ag rfl 77 rfl (bq 0 emp 0 emp none 0 0 0) NZ.out ?_;intro w5 g5 b5;have G5:=ad g5;have HG5:=ad (HG.out.below b5 HG.out.lt);have HM5:=ad (HM.out.below b5 HM.out.lt);have B5:=ad b5;clear g5 b5 c0 c1 c2 c3 c4' c5) | (refine ae rfl 77 _ _ rfl wr.heap.size rfl (bq k p mo t x L xc cl) (bq 0 emp 0 emp none 0 0 0) rfl 77 G5.out NO.out.2 rfl (bE _ _ _ _ _ _ _ _) ?_;intro w6 g6 t6;have HG6:=ad (HG5.out.aD t6 (Nat.ne_of_lt WG.out));have HM6:=ad (HM5.out.block (t6.other (Nat.ne_of_lt WM.out)));have G6:=ad g6;have B6:=ad (B5.out.trans (t6.below ah));have c0:=g6.get 0 rfl;have c1:=g6.get 1 rfl;have c2:=g6.get 2 rfl;have c3:=g6.get 3 rfl;have c4:=g6.get 4 rfl;have c5:=g6.get 5 rfl;have q1:= (bI (P:=Tryz.prog) (w:=w6) 116 3 9 UM.out (.int .i64) UK.out (.string emp) ZS.out m N (.int .i64 cl) (show IsKey (.int .i64) (.int .i64 cl)from rfl) F HM6.out).1;rw[HFF.out]at q1;simp only[Option.getD_none,Option.isSome_none]at q1;clear g6 t6));refine(sR k p mo t x L xc cl w6).mono ?_;rintro e w7 ⟨rfl,b7⟩;have HG7:=ad (HG6.out.below b7 HG6.out.lt);have HM7:=ad (HM6.out.below b7 HM6.out.lt);have G7:=ad (G6.out.below b7 G6.out.lt);have O7:=ad (HO.out.trans (aA.aq (ar B6.out b7) ah));clear b7 c0 c1 c2 c3 c4 c5;rw[eL.out];go_wp2_with (first| (refine gm rfl 70 _ _ rfl g _ j rfl (by omega) ⟨⟨⟨k,p,mo,t,d.length⟩,d⟩,x,xc⟩ rfl MO.out.2 70 us HG7.out UL.out ?_;intro w8 g8 t8;have HG8:=ad g8;have HM8:=ad (HM7.out.block (t8.other (Ne.symm (Nat.ne_of_lt GM.out))));have O8:=ad (O7.out.trans (cX.only (S:=fun k=>k=g\/k=m) t8 (.inl rfl)));have G8:=ad (G7.out.aK t8 (Ne.symm (Nat.ne_of_lt WG.out)));have c0:=G8.out.get 0 rfl;have c1:=G8.out.get 1 rfl;have c5:=G8.out.get 5 rfl;clear g8 t8) | (refine cE rfl 116 _ _ _ rfl 3 9 UM.out (.int .i64) UK.out m rfl (.int .i64 cl) rfl (show IsKey (.int .i64) (.int .i64 cl)from rfl) (.string p) rfl N F HM8.out ?_;intro w9 m9 t9;rw[HFF.out,if_pos rfl]at m9;have HM9:=ad m9;have HG9:=ad (HG8.out.aK t9 (Nat.ne_of_lt GM.out));have O9:=ad (O8.out.trans (cX.only (S:=fun k=>k=g\/k=m) t9 (.inr rfl)));clear m9 t9))
     go_round
     case rel=>exact⟨j+1,N+1,_,_,by go_num,by have:=JN.out;omega,HRW.out.next JN.out EL.out,HG9.out,HM9.out,LS.out,O9.out⟩
     case measure=>simp[intOf];have:=JN.out;omega
    ·have LS:=ad (HL.out.stay JC.out (.inr (by rw[ZC.out];exact Int.not_lt.mp hc)));clear hF hfr FS;go_wp2_with (first| (refine ag rfl 77 rfl (bq 0 emp 0 emp none 0 0 0) NZ.out ?_;intro w5 g5 b5;have G5:=ad g5;have HG5:=ad (HG.out.below b5 HG.out.lt);have HM5:=ad (HM.out.below b5 HM.out.lt);have B5:=ad b5;clear g5 b5 c0 c1 c2 c3 c4' c5) | (refine ae rfl 77 _ _ rfl wr.heap.size rfl (bq k p mo t x L xc cl) (bq 0 emp 0 emp none 0 0 0) rfl 77 G5.out NO.out.2 rfl (bE _ _ _ _ _ _ _ _) ?_;intro w6 g6 t6;have HG6:=ad (HG5.out.aD t6 (Nat.ne_of_lt WG.out));have HM6:=ad (HM5.out.block (t6.other (Nat.ne_of_lt WM.out)));have G6:=ad g6;have B6:=ad (B5.out.trans (t6.below ah));have c0:=g6.get 0 rfl;have c1:=g6.get 1 rfl;have c2:=g6.get 2 rfl;have c3:=g6.get 3 rfl;have c4:=g6.get 4 rfl;have c5:=g6.get 5 rfl;have q1:= (bI (P:=Tryz.prog) (w:=w6) 116 3 9 UM.out (.int .i64) UK.out (.string emp) ZS.out m N (.int .i64 cl) (show IsKey (.int .i64) (.int .i64 cl)from rfl) F HM6.out).1;rw[HFF.out]at q1;simp only[Option.getD_none,Option.isSome_none]at q1;clear g6 t6));refine(sR k p mo t x L xc cl w6).mono ?_;rintro e w7 ⟨rfl,b7⟩;have HG7:=ad (HG6.out.below b7 HG6.out.lt);have HM7:=ad (HM6.out.below b7 HM6.out.lt);have G7:=ad (G6.out.below b7 G6.out.lt);have O7:=ad (HO.out.trans (aA.aq (ar B6.out b7) ah));clear b7 c0 c1 c2 c3 c4 c5;rw[eL.out];go_wp2_with (first| (refine gm rfl 70 _ _ rfl g _ j rfl (by omega) ⟨⟨⟨k,p,mo,t,d.length⟩,d⟩,x,xc⟩ rfl MO.out.2 70 us HG7.out UL.out ?_;intro w8 g8 t8;have HG8:=ad g8;have HM8:=ad (HM7.out.block (t8.other (Ne.symm (Nat.ne_of_lt GM.out))));have O8:=ad (O7.out.trans (cX.only (S:=fun k=>k=g\/k=m) t8 (.inl rfl)));have G8:=ad (G7.out.aK t8 (Ne.symm (Nat.ne_of_lt WG.out)));have c0:=G8.out.get 0 rfl;have c1:=G8.out.get 1 rfl;have c5:=G8.out.get 5 rfl;clear g8 t8))
     go_round
     case rel=>exact⟨j+1,N,_,F,by go_num,by have:=JN.out;omega,HRW.out.next JN.out EL.out,HG8.out,HM8.out,LS.out,O8.out⟩
     case measure=>simp[intOf];have:=JN.out;omega
  ·obtain rfl:j=n:=by omega
   obtain⟨d1,d2⟩:=hrw.done CN.out (ho.mono fun k _ h=>h.elim .inl fun h=> .inr (.inl h))
   have d3:∀u∈us,∀x,u.a=some x->w.heap.size<=x.block:=fun u hu x hx=>by
    obtain⟨i,hi,rfl⟩:=List.getElem_of_mem hu;obtain⟨v,h1,h2⟩:=hrw.el i (by rw[<- hrw.len];exact hi);obtain rfl:us[i] =v:=Option.some.inj ((List.getElem?_eq_getElem hi).symm.trans h1);have:=h2.s x hx;omega
   have RES:Hid (vv w (aI ys) (.returned (.tuple #[.slice (some ⟨g,0,none⟩) j j,.int .i64 (j:Int),.int .i64 0])) wr) :=by
    refine⟨_,_,_,us,_,_,rfl,hX1.out,hX2.out,⟨hrw.len,ah,by have:=H40.out;unfold maxLen;omega,.inr ⟨g,0,rfl,hg.lt,.of_cells hg⟩,d2⟩,?_,B4.out.trans (ho.below (fun k hk=>?_) B4.out.size),fun x hx=>by injection hx with hx;rw[<- hx];exact GW.out,d3⟩
    ·unfold iF;rw[<- hX2.out,if_pos rfl,d1,HC.out]
    ·rcases hk with rfl|rfl
     ·exact GW.out
     ·exact MW.out
   clear hrw hg hm hl ho d1 d2 d3 hjn hj;go_wp2_with fail;go_ret3;exact RES.out
end Go.Proofs.YtcjagakckffkiaaGreatDoor.Flt
namespace Go.Proofs.YtcjagakckffkiaaGreatDoor
open Go.RowKit
def iz (w:World)(S:Nat->Prop)(m:Nat)(ys:List Int)(F:Int)(cs:List Int)(r:Nat) :Prop:=
 ∃da dc sa sc,ak w m 110 [.slice sa cs.length sc,.int .i64 F,.slice da ys.length dc,.int .i64 r]/\w.ownsRow 0 5 1 (.slice da ys.length dc) ys.length (ys.map (.int .u8))/\Bytes ys/\eJ .i64 w sa cs/\cs.length<=1000/\ys.length<=100000000/\
  S m/\ (∀k,S k->k<w.heap.size)/\ (∀x,da=some x->S x.block/\x.block≠m)/\ (∀x,sa=some x->S x.block/\x.block≠m/\∀y,da=some y->x.block≠y.block)/\r<=ys.length/\ (0<=F-> (ys.length:Int)<=F)
theorem PD {a:Option Addr}{n c k:Nat}(h: (Value.slice a n c).ownBlock=some k) :∃x,a=some x/\x.block=k:=by
 cases a with
 |none=>cases h
 |some x=>exact⟨x,rfl,by simpa [Value.ownBlock]using h⟩
theorem oe {S:Nat->Prop}{w w':World}{base n c:Nat}{e:TypeId}{a:Option Addr}{xs:List Value}(h:w.ownsRow base e 1 (.slice a n c) n xs)(ho:aA S w w')(hb:∀x,a=some x->¬S x.block) :w'.ownsRow base e 1 (.slice a n c) n xs:=by
 obtain⟨h1,h2⟩:=h;refine⟨h1,h2.imp id ?_⟩;rintro⟨g,cap,cur,hv,hbg,hg,r⟩
 have hlt:g<w.heap.size:=by
  rcases Nat.lt_or_ge g w.heap.size with hl|hl
  ·exact hl
  ·rw[Array.getElem?_eq_none hl]at hg;cases hg
 have ha:a=some ⟨g,0,none⟩:=by simp only[Value.slice.injEq]at hv;exact hv.1
 exact⟨g,cap,cur,hv,hbg,(ho.block g hlt (hb _ ha)).trans hg,r⟩
theorem iz.only {w w':World}{S T:Nat->Prop}{m:Nat}{ys cs:List Int}{F:Int}{r:Nat}(h:iz w S m ys F cs r)(ho:aA T w w')(hd:∀k,S k->¬T k) :iz w' S m ys F cs r:=by
 obtain⟨da,dc,sa,sc,h1,h2,h3,h4,h5,h6,h7,h8,h9,h10,h11⟩:=h;exact⟨da,dc,sa,sc,h1.only ho (hd _ h7),oe h2 ho (fun x hx=>hd _ (h9 x hx).1),h3,h4.only ho (fun x hx=>hd _ (h10 x hx).1),h5,h6,h7,fun k hk=>Nat.lt_of_lt_of_le (h8 k hk) ho.size,h9,h10,h11⟩
theorem iz.lt {w:World}{S:Nat->Prop}{m:Nat}{ys cs:List Int}{F:Int}{r:Nat}(h:iz w S m ys F cs r) :∀k,S k->k<w.heap.size:=by
 obtain⟨_,_,_,_,_,_,_,_,_,_,_,h8,_⟩:=h;exact h8
theorem iz.me {w:World}{S:Nat->Prop}{m:Nat}{ys cs:List Int}{F:Int}{r:Nat}(h:iz w S m ys F cs r) :S m:=by
 obtain⟨_,_,_,_,_,_,_,_,_,_,h7,_⟩:=h;exact h7
theorem iz.bytes {w:World}{S:Nat->Prop}{m:Nat}{ys cs:List Int}{F:Int}{r:Nat}(h:iz w S m ys F cs r) :Bytes ys/\ys.length<=100000000/\cs.length<=1000/\r<=ys.length/\ (0<=F-> (ys.length:Int)<=F) :=by
 obtain⟨_,_,_,_,_,_,h3,_,h5,h6,_,_,_,_,h11⟩:=h;exact⟨h3,h6,h5,h11⟩
theorem iz.below {w w':World}{S:Nat->Prop}{m:Nat}{ys cs:List Int}{F:Int}{r:Nat}(h:iz w S m ys F cs r)(hb:Below w.heap.size w w') :iz w' S m ys F cs r:=
 h.only (T:=fun _=>False) (.aq hb ah) (fun _ _ h=>h)
theorem iz.grow {w:World}{S T:Nat->Prop}{m:Nat}{ys cs:List Int}{F:Int}{r:Nat}(h:iz w S m ys F cs r)(hST:∀k,S k->T k)(hT:∀k,T k->k<w.heap.size) :iz w T m ys F cs r:=by
 obtain⟨da,dc,sa,sc,h1,h2,h3,h4,h5,h6,h7,h8,h9,h10,h11⟩:=h;exact⟨da,dc,sa,sc,h1,h2,h3,h4,h5,h6,hST _ h7,hT,fun x hx=>⟨hST _ (h9 x hx).1,(h9 x hx).2⟩,fun x hx=>⟨hST _ (h10 x hx).1,(h10 x hx).2⟩,h11⟩
theorem iz.stay {w w':World}{S:Nat->Prop}{m:Nat}{ys cs:List Int}{F:Int}{r:Nat}(h:iz w S m ys F cs r)(hb:Below w.heap.size w w') :iz w' (Grow S w w') m ys F cs r/\aA S w w':=
 ⟨(h.below hb).grow (fun _ hk=> .inl hk) (fun k hk=>hk.elim (fun hk=>Nat.lt_of_lt_of_le (h.lt k hk) hb.size) (fun h=>h.2)),.aq hb ah⟩
theorem sF {P:Program}{w:World}(t ty e:TypeId)(k:IntKind)(B:Nat)(hT:P.underlying t=some (.slice e))(hI:pC P e k B)
 (a:Option Addr)(n cap:Nat)(zs:List Int)(hown:w.ownsRow 0 e 1 (.slice a n cap) n (zs.map (.int k)))
 (b:Option Addr)(m c:Nat)(ys:List Int)(hy:eJ k w b ys)(hl:ys.length=m)(h63:n+m<=maxLen)(h47: (n+m) *B<=140737488355328) :
 ∃a' c' w',(Builtin.append_ #[t,t] ty #[.slice a n cap,.slice b m c]).run P w= .ok (.slice a' (n+m) c') w'/\w'.ownsRow 0 e 1 (.slice a' (n+m) c') (n+m) ((zs++ys).map (.int k))/\
  (aA (fun q=>∃x,a=some x/\x.block=q) w w')/\∀x,a'=some x-> (∃y,a=some y/\y.block=x.block)\/ (w.heap.size<=x.block/\x.block<w'.heap.size) :=by
 obtain⟨i0,h1,h2,h3,h4⟩:=hI;rcases hy with hy|⟨b',off,rfl,_,hy⟩
 ·subst hy;obtain rfl:m=0:=hl.symm;refine⟨a,cap,w,ew (P:=P) w 0 t ty e i0 1 hT h1 _ n _ hown b c,by simpa using hown,aA.refl _ _,fun x hx=> .inl ⟨x,hx,rfl⟩⟩
 ·obtain⟨v',w',hr,ho,hg,_,hw⟩:=run_append_own_at (P:=P) w 0 t ty e i0 (.int k 0) 1 B hT h1 h2 h3 h4 rfl (by decide) (.slice a n cap) n _ hown ⟨b',off,none⟩ m c (ys.map (.int k)) (by rw[List.length_map,hl,Nat.mul_one]) (Mr hy) (iy _ _) h63 h47 (Nat.zero_le _);rw[<- List.map_append]at ho;obtain⟨a',c',rfl,_,_,_,_,hlt⟩:=bl ho;refine⟨a',c',w',hr,ho,⟨hg.os,hg.tape,hg.output,hg.size,fun q hq hn=>hg.block q hq fun he=>hn ?_⟩,fun x hx=>?_⟩
  ·obtain⟨x,h1,h2⟩:=PD he.symm;exact⟨x,h1,h2⟩
  ·subst hx;have hx:= (hlt x rfl).2.1;rcases hw with hw|hw
   ·obtain⟨y,h1,h2⟩:=PD (hw.symm.trans (show(Value.slice (some x) (n+m) c').ownBlock=some x.block from rfl));exact .inl ⟨y,h1,h2⟩
   ·have h3:x.block=w.heap.size:=by simpa [Value.ownBlock]using hw
    exact .inr ⟨by omega,hx⟩
theorem qE {P:Program}{w:World}{ops:Array Oper}{o:Oper}{act:Act}{Q:Exit->Act->World->Prop}{K:Act->World->Prop}{E:Prop}(hgd:o.guard=none)(s x:Operand)(t:TypeId)
 (ho:o.op= .call {callee:= .builtin .append,args:= #[s,x],argTypes:= #[t,t]})
 (e:TypeId)(k:IntKind)(B:Nat)(hT:P.underlying t=some (.slice e))(hI:pC P e k B)(w0:World)(h0:Below w0.heap.size w0 w)
 (a:Option Addr)(n cap:Nat)(zs:List Int)(hs:act.eval s= .slice a n cap)(hown:w0.ownsRow 0 e 1 (.slice a n cap) n (zs.map (.int k)))
 (b:Option Addr)(m c:Nat)(ys:List Int)(hx:act.eval x= .slice b m c)(hy:eJ k w0 b ys)(hl:ys.length=m)(h63:n+m<=maxLen)(h47: (n+m) *B<=140737488355328)
 (h:∀a' c' w',w'.ownsRow 0 e 1 (.slice a' (n+m) c') (n+m) ((zs++ys).map (.int k))->aA (fun q=>∃x,a=some x/\x.block=q) w0 w'-> (∀x,a'=some x-> (∃y,a=some y/\y.block=x.block)\/ (w0.heap.size<=x.block/\x.block<w'.heap.size))->K (act.put o.dst (.slice a' (n+m) c')) w') :
 if Region.wanted o (yielded ops act.tmps) =true then Oper.wp P o act w K Q else E:=by
 have hw:Region.wanted o (yielded ops act.tmps) =true:=by simp[Region.wanted,hgd]
 rw[if_pos hw];have h00:aA (fun _=>False) w0 w:= .aq h0 ah;obtain⟨a',c',w',hr,h1,h2,h3⟩:=sF (P:=P) (w:=w) t o.type e k B hT hI a n cap zs (oe hown h00 (fun _ _ h=>h)) b m c ys (hy.below h0) hl h63 h47;unfold Oper.wp;simp[execOp,ho,resolve,invoke,builtin,hs,hx,hr,Result.andThen];exact h _ _ _ h1 ((h00.mono (fun _ _ h=>h.elim)).trans h2) fun x hx=> (h3 x hx).imp id fun h=>⟨Nat.le_trans h0.size h.1,h.2⟩
end Go.Proofs.YtcjagakckffkiaaGreatDoor
namespace Go.Proofs.YtcjagakckffkiaaGreatDoor
open Go.RowKit
def nN (w:World)(S:Nat->Prop)(q m:Nat)(ys:List Int)(F:Int)(o:Nat)(err:Int) :Prop:=
 ∃S' cs r,ak w q 167 [.int .i64 o,.int .i64 err,.pointer (some ⟨m,0,none⟩)]/\iz w S' m ys F cs r/\ (∀k,S' k->S k)/\S q/\¬S' q/\ (∀k,S k->k<w.heap.size)/\o<=ys.length
theorem nN.only {w w':World}{S T:Nat->Prop}{q m:Nat}{ys:List Int}{F:Int}{o:Nat}{err:Int}(h:nN w S q m ys F o err)(ho:aA T w w')(hd:∀k,S k->¬T k) :nN w' S q m ys F o err:=by
 obtain⟨S',cs,r,h1,h2,h3,h4,h5,h6,h7⟩:=h;exact⟨S',cs,r,h1.only ho (hd _ h4),h2.only ho (fun k hk=>hd _ (h3 k hk)),h3,h4,h5,fun k hk=>Nat.lt_of_lt_of_le (h6 k hk) ho.size,h7⟩
theorem nN.below {w w':World}{S:Nat->Prop}{q m:Nat}{ys:List Int}{F:Int}{o:Nat}{err:Int}(h:nN w S q m ys F o err)(hb:Below w.heap.size w w') :nN w' S q m ys F o err:=
 h.only (T:=fun _=>False) (.aq hb ah) (fun _ _ h=>h)
theorem nN.lt {w:World}{S:Nat->Prop}{q m:Nat}{ys:List Int}{F:Int}{o:Nat}{err:Int}(h:nN w S q m ys F o err) : (∀k,S k->k<w.heap.size)/\S q/\o<=ys.length:=by
 obtain⟨_,_,_,_,_,_,h4,_,h6,h7⟩:=h;exact⟨h6,h4,h7⟩
theorem nN.grow {w:World}{S T:Nat->Prop}{q m:Nat}{ys:List Int}{F:Int}{o:Nat}{err:Int}(h:nN w S q m ys F o err)(hST:∀k,S k->T k)(hT:∀k,T k->k<w.heap.size) :nN w T q m ys F o err:=by
 obtain⟨S',cs,r,h1,h2,h3,h4,h5,_,h7⟩:=h;exact⟨S',cs,r,h1,h2,fun k hk=>hST _ (h3 k hk),hST _ h4,h5,hT,h7⟩
theorem nN.sink {w:World}{S:Nat->Prop}{q m:Nat}{ys:List Int}{F:Int}{o:Nat}{err:Int}(h:nN w S q m ys F o err) :∃S' cs r,iz w S' m ys F cs r/\ (∀k,S' k->S k)/\¬S' q:=by
 obtain⟨S',cs,r,_,h2,h3,_,h5,_⟩:=h;exact⟨S',cs,r,h2,h3,h5⟩
theorem nN.stay {w w':World}{S:Nat->Prop}{q m:Nat}{ys:List Int}{F:Int}{o:Nat}{err:Int}(h:nN w S q m ys F o err)(hb:Below w.heap.size w w') :nN w' (Grow S w w') q m ys F o err/\aA S w w':=
 ⟨(h.below hb).grow (fun _ hk=> .inl hk) (fun k hk=>hk.elim (fun hk=>Nat.lt_of_lt_of_le (h.lt.1 k hk) hb.size) (fun h=>h.2)),.aq hb ah⟩
theorem nN.wide {w w2 w':World}{S:Nat->Prop}{q m:Nat}{ys:List Int}{F:Int}{o:Nat}{err:Int}(h:nN w' (Grow S w2 w') q m ys F o err)(hw:w.heap.size<=w2.heap.size)(hS:∀k,S k->k<w.heap.size)(hz:w2.heap.size<=w'.heap.size) :nN w' (Grow S w w') q m ys F o err:=
 h.grow (fun k hk=>hk.imp id (fun h=>⟨Nat.le_trans hw h.1,h.2⟩)) (fun k hk=>hk.elim (fun h=>by have:=hS k h;omega) (fun h=>h.2))
theorem Lg {S:Nat->Prop}{m:Nat}{ys cs:List Int}{F:Int}{r:Nat}(w:World)(h:iz w S m ys F cs r) :
 Calls Tryz.prog 50 #[.pointer (some ⟨m,0,none⟩)] w fun e w'=>∃q,e= .returned (.pointer (some ⟨q,0,none⟩))/\nN w' (Grow S w w') q m ys F 0 0/\Below w.heap.size w w':=by
 have H:=ad h;clear h;go_enter Tryz.func50,Tryz.ntmps50;go_wp2_with (first| (refine aj rfl 167 _ rfl [.int .i64 0,.int .i64 0,.pointer (some ⟨m,0,none⟩)] rfl ?_;intro w1 h1 b1;have H1:=ad h1;have B1:=ad b1;clear h1 b1));go_ret;have l1:=H1.out.lt;have hs:=H.out.lt;refine⟨w.heap.size,rfl,⟨S,cs,r,H1.out,H.out.below B1.out,fun k hk=> .inl hk,.inr ⟨ah,l1⟩,fun h=>by have:=hs _ h;simp at this,fun k hk=>hk.elim (fun hk=>by have:=hs k hk;omega) (fun h=>h.2),Nat.zero_le _⟩,B1.out⟩
end Go.Proofs.YtcjagakckffkiaaGreatDoor
namespace Go.Proofs.YtcjagakckffkiaaGreatDoor
open Go.RowKit
theorem yt (v:Value)(w:World) :Calls Tryz.prog 212 #[.pointer none,v] w fun e w'=>e= .returned (.tuple #[.int .i64 0,.int .i64 1])/\w=w':=by
 go_enter Tryz.func212,Tryz.ntmps212;go_wp2;go_ret2;exact⟨rfl,rfl⟩
theorem PG (a:Option Addr)(n c:Nat)(w:World) :Calls Tryz.prog 187 #[.pointer none,.slice a n c] w fun e w'=>e= .returned (.int .i64 1)/\w=w':=by
 go_enter Tryz.func187,Tryz.ntmps187;go_wp2_with fail;go_loopw [1,5,6,7] (fun v _ _ _ wr=>v= .slice a n c/\wr=w) (fun _ _ _ _ _=>0)
 case atStart=>exact⟨rfl,rfl⟩
 case round=>
  obtain⟨rfl,rfl⟩:=hrel;go_wp2_with fail;refine(yt _ _).mono ?_;rintro e w2 ⟨rfl,rfl⟩;go_wp2_with fail;go_ret;exact⟨rfl,rfl⟩
theorem qI {S:Nat->Prop}{m:Nat}{ys cs:List Int}{F:Int}{r:Nat}(w:World)(h:iz w S m ys F cs r) :
 Calls Tryz.prog 25 #[.pointer (some ⟨m,0,none⟩)] w fun e w'=>e= .returned (.int .i64 ys.length)/\w=w':=by
 obtain⟨da,dc,sa,sc,h1,h2,h3,h4,h5,h6,h7,h8,h9,h10,h11⟩:=h;have c2:=h1.get 2 rfl;have h6': (ys.length:Int)<=100000000:=by omega
 clear h1 h2 h3 h4 h5 h6 h7 h8 h9 h10 h11;go_enter Tryz.func25,Tryz.ntmps25;go_wp2;go_ret;exact⟨rfl,rfl⟩
theorem Nr {w:World}{a:Option Addr}{n c base:Nat}{e:TypeId}{k:IntKind}{zs:List Int}(h:w.ownsRow base e 1 (.slice a n c) n (zs.map (.int k))) :eJ k w a zs:=by
 obtain⟨b,c',hv,h1,_⟩:=bl h;simp only[Value.slice.injEq,true_and]at hv;rw[hv.1];exact h1
theorem lR {S:Nat->Prop}{m:Nat}{ys cs:List Int}{F:Int}{r:Nat}(w:World)(h:iz w S m ys F cs r) :
 Calls Tryz.prog 26 #[.pointer (some ⟨m,0,none⟩)] w fun e w'=>∃v,e= .returned v/\w'.ownsRow w.heap.size 5 1 v ys.length (ys.map (.int .u8))/\Below w.heap.size w w':=by
 obtain⟨da,dc,sa,sc,h1,h2,h3,h4,h5,h6,h7,h8,h9,h10,h11⟩:=h;have c2:=h1.get 2 rfl;have HI:=ad (Nr h2);have H6:=ad h6;clear h1 h2 h3 h4 h5 h6 h7 h8 h9 h10 h11;go_enter Tryz.func26,Tryz.ntmps26;go_wp2_with fail;refine(lO da ys.length dc ys w HI.out rfl (by have:=H6.out;omega)).mono ?_;rintro e w2 ⟨v2,rfl,o2,b2⟩;have O2:=ad o2;have B2:=ad b2;clear o2 b2;go_wp2_with fail;go_ret;exact⟨_,rfl,O2.out,B2.out⟩
def pt (F:Int)(L:Nat) :Int:=if F<0 then 9223372036854775807 else F- L
theorem oK {S:Nat->Prop}{m:Nat}{ys cs:List Int}{F:Int}{r:Nat}(w:World)(h:iz w S m ys F cs r)(hF:F<=9223372036854775807) :
 Calls Tryz.prog 237 #[.pointer (some ⟨m,0,none⟩)] w fun e w'=>e= .returned (.int .i64 (pt F ys.length))/\Below w.heap.size w w':=by
 have H:=ad h;obtain⟨da,dc,sa,sc,h1,h2,h3,h4,h5,h6,h7,h8,h9,h10,h11,h12⟩:=h;have c1:=h1.get 1 rfl;have H6:=ad h6;have HL:Hid (0<=F-> (ys.length:Int)<=F) :=h12;clear h1 h2 h3 h4 h5 h6 h7 h8 h9 h10 h11 h12;by_cases h0:F<0
 ·have e1:pt F ys.length=9223372036854775807:=if_pos h0;rw[e1];clear e1;go_enter Tryz.func237,Tryz.ntmps237;go_wp2;go_ret;exact⟨rfl,aF⟩
 ·have e1:pt F ys.length=F- ys.length:=if_neg h0;rw[e1];clear e1;obtain⟨L,hL⟩:=named ys.length;have hl: (L:Int)<=F:=by rw[hL.out];exact HL.out (by omega)
  rw[<- hL.out];go_enter Tryz.func237,Tryz.ntmps237;go_wp2_with fail;have NC:Hid (∀w':World,iz w' S m ys F cs r->Calls Tryz.prog 25 #[.pointer (some ⟨m,0,none⟩)] w' fun e w''=>e= .returned (.int .i64 L)/\w''=w') :=fun w' hs=> (qI w' hs).mono fun e w'' ⟨h1,h2⟩=>⟨by rw[h1,hL.out],h2.symm⟩;go_quiet ((go_at_call 25;refine Calls.quiet_of_same (NC.out _ H.out)));go_wp2;go_ret;exact⟨rfl,aO _ _ _⟩
set_option maxRecDepth 100000 in
theorem yE {S:Nat->Prop}{m:Nat}{ys cs:List Int}{F:Int}{r:Nat}(w:World)(h:iz w S m ys F cs r) :
 Calls Tryz.prog 238 #[.pointer (some ⟨m,0,none⟩)] w fun e w'=>e= .returned (.int .i64 (dN cs r))/\Below w.heap.size w w':=by
 have H:=ad h;obtain⟨da,dc,sa,sc,h1,h2,h3,h4,h5,h6,h7,h8,h9,h10,h11,h12⟩:=h;have HI:=ad h4;have HL:=ad h5;have c0:=h1.get 0 rfl;have c3:=h1.get 3 rfl;clear h1 h2 h3 h4 h5 h6 h7 h8 h9 h10 h11 h12;by_cases hz:cs.length=0
 ·have HZ:=ad hz;rw[hz]at c0;clear hz;go_enter Tryz.func238,Tryz.ntmps238;go_wp2;go_ret;refine⟨?_,aF⟩;unfold dN;rw[if_pos HZ.out];rfl
 ·obtain⟨L,hL⟩:=named cs.length;obtain⟨i,hI⟩:=named (r % cs.length);obtain⟨d,hd⟩:=named (cs.getD i 0);have hlt:i<cs.length:=by rw[hI.out];exact Nat.mod_lt _ (by omega)
  obtain⟨b,off,rfl,hb⟩:=HI.out.plain (by omega);have hck:Hid (dN cs r=max d 1) :=by show _=_;unfold dN;rw[if_neg hz,hd.out,hI.out]
  have cd:=HI.out.get i hlt;rw[<- hd.out]at cd;have hmod: (r:Int) % (L:Int) = (i:Int) :=by rw[hI.out,hL.out];omega
  have hlt': (i:Int) <L:=by rw[hL.out];omega
  have hL0:¬L=0:=by rw[hL.out];exact hz
  rw[<- hL.out]at c0;clear hz hlt;go_enter Tryz.func238,Tryz.ntmps238;go_wp2_with fail;have hr:Hid (Below w.heap.size w w) :=aF;by_cases Ip:1<=d
  ·have HKd:Hid (dN cs r=d) :=by show _=_;rw[hck.out];omega
   have fin:∀nq,Below w.heap.size w (w.drewN nq) :=fun nq=>aO _ _ _;have FIN:=ad fin;clear fin;have hmx:max d 1=d:=by omega
   go_region
   all_goals (go_wp2;go_ret;exact⟨by rw[HKd.out];rfl,FIN.out _⟩)
  ·have HKd:Hid (dN cs r=1) :=by show _=_;rw[hck.out];omega
   have fin:∀nq,Below w.heap.size w (w.drewN nq) :=fun nq=>aO _ _ _;have FIN:=ad fin;clear fin;have hmx:max d 1=1:=by omega
   go_region
   all_goals (go_wp2;go_ret;exact⟨by rw[HKd.out];rfl,FIN.out _⟩)
end Go.Proofs.YtcjagakckffkiaaGreatDoor
namespace Go.Proofs.YtcjagakckffkiaaGreatDoor
open Go.RowKit
theorem iz.step {w w4:World}{S:Nat->Prop}{m:Nat}{ys cs:List Int}{F:Int}{r:Nat}{da:Option Addr}{dc:Nat}{sa:Option Addr}{sc:Nat}
 (h1:ak w m 110 [.slice sa cs.length sc,.int .i64 F,.slice da ys.length dc,.int .i64 r])(h3:Bytes ys)(h4:eJ .i64 w sa cs)(h5:cs.length<=1000)(h7:S m)(h8:∀k,S k->k<w.heap.size)
 (h9:∀x,da=some x->S x.block/\x.block≠m)(h10:∀x,sa=some x->S x.block/\x.block≠m/\∀y,da=some y->x.block≠y.block)(h11:r<=ys.length)
 {k:Nat}(xs:List Int)(hx:xs.length=k)(hk:1<=k)(hxb:Bytes xs)(hy:ys.length+k<=100000000)(hF:0<=F-> ((ys.length+k:Nat) :Int)<=F)(a':Option Addr)(c':Nat)
 (ho:w4.ownsRow 0 5 1 (.slice a' (ys.length+k) c') (ys.length+k) ((ys++xs).map (.int .u8)))(hO:aA (fun q=>∃x,da=some x/\x.block=q) w w4)
 (hw:∀x,a'=some x-> (∃y,da=some y/\y.block=x.block)\/ (w.heap.size<=x.block/\x.block<w4.heap.size))(w5:World)
 (e5:w5= (w4.setCell ⟨m,2,none⟩ (.slice a' (ys.length+k) c')).setCell ⟨m,3,none⟩ (.int .i64 (r+1))) :
 iz w5 (Grow S w w5) m (ys++xs) F cs (r+1)/\aA S w w5:=by
 have hlt:=h1.lt;have hsz:w5.heap.size=w4.heap.size:=by rw[e5];simp[World.setCell]
 have hly: (ys++xs).length=ys.length+k:=by rw[List.length_append,hx]
 have hOs:aA S w w4:=hO.mono fun q _ ⟨x,h1,h2⟩=>h2▸(h9 x h1).1
 have hne:∀x,a'=some x->x.block≠m:=fun x hx=>by
  rcases hw x hx with⟨y,h1,h2⟩|h
  ·rw[<- h2];exact(h9 y h1).2
  ·omega
 have o1:ak w4 m 110 [.slice sa cs.length sc,.int .i64 F,.slice da ys.length dc,.int .i64 r] :=h1.only hO (by rintro⟨x,h1,h2⟩;exact(h9 x h1).2 h2);have i4:eJ .i64 w4 sa cs:=h4.only hO (by rintro x hx ⟨y,h1,h2⟩;exact(h10 x hx).2.2 y h1 h2.symm);refine⟨⟨a',c',sa,sc,?_,?_,h3.append hxb,?_,h5,by rw[hly];exact hy,.inl h7,fun q hq=>?_,fun x hx=>⟨?_,hne x hx⟩,fun x hx=>⟨.inl (h10 x hx).1,(h10 x hx).2.1,fun y hy=>?_⟩,by rw[hly];omega,by rw[hly];exact hF⟩,?_⟩
 ·rw[e5,hly];exact(o1.set 2 _).set 3 _
 ·rw[e5,hly];have c1:aA (fun q=>q=m) w4 ((w4.setCell ⟨m,2,none⟩ (.slice a' (ys.length+k) c')).setCell ⟨m,3,none⟩ (.int .i64 (r+1))) := ((aA.refl (fun q=>q=m) w4).setCell (p:=⟨m,2,none⟩) (.inl rfl) _).setCell (p:=⟨m,3,none⟩) (.inl rfl) _;exact oe ho c1 hne
 ·rw[e5];exact(i4.set _ (fun x hx=> (h10 x hx).2.1)).set _ (fun x hx=> (h10 x hx).2.1)
 ·rcases hq with hq|hq
  ·have:=h8 q hq;have:=hO.size;omega
  ·exact hq.2
 ·rcases hw x hx with⟨y,h1,h2⟩|h
  ·rw[<- h2];exact .inl (h9 y h1).1
  ·exact .inr ⟨h.1,by omega⟩
 ·rcases hw y hy with⟨z,h1,h2⟩|h
  ·rw[<- h2];exact(h10 x hx).2.2 z h1
  ·have:=h8 _ (h10 x hx).1;omega
 ·rw[e5];exact(hOs.setCell (.inl h7) _).setCell (.inl h7) _
set_option maxRecDepth 100000 in
theorem Bj {S:Nat->Prop}{m:Nat}{ys cs:List Int}{F:Int}{r:Nat}(a:Option Addr)(n cap:Nat)(bs:List Int)(w:World)(h:iz w S m ys F cs r)(hb:BytesIn w a bs)(hl:bs.length=n)(hnc:n<=cap)(hn:ys.length+n<=100000000)(hF:F<=9223372036854775807) :
 Calls Tryz.prog 212 #[.pointer (some ⟨m,0,none⟩),.slice a n cap] w fun e w'=>e= .returned (.tuple #[.int .i64 (oL cs F ys.length r n),.int .i64 (Fh F ys.length n)])/\
  iz w' (Grow S w w') m (ys++bs.take (oL cs F ys.length r n)) F cs (Mu F ys.length r n)/\aA S w w':=by
 have H:=ad h;by_cases h0:n=0
 ·subst h0;have e1:oL cs F ys.length r 0=0:=if_pos (.inl rfl);have e2:Fh F ys.length 0=0:=if_pos rfl;have e3:Mu F ys.length r 0=r:=if_pos (.inl rfl);rw[e1,e2,e3,List.take_zero,List.append_nil];clear h hb hl e1 e2 e3;go_enter Tryz.func212,Tryz.ntmps212;go_wp2;go_ret2;exact⟨rfl,H.out.stay aF⟩
 ·have hn0: ((n:Int) ==0) =false:=by simp;omega
  have HB:=ad hb;have HL:=ad hl;have hfl:=h.bytes.2.2.2.2;have HFL:Hid (0<=F-> (ys.length:Int)<=F) :=hfl;clear h hb hl hfl;by_cases hf:full F ys.length
  ·have e1:oL cs F ys.length r n=0:=if_pos (.inr hf);have e2:Fh F ys.length n=11:=by unfold Fh;rw[if_neg h0,if_pos hf]
   have e3:Mu F ys.length r n=r:=if_pos (.inr hf);have e4:pt F ys.length=0:=by unfold pt;unfold full at hf;rw[if_neg (by omega)];omega
   rw[e1,e2,e3,List.take_zero,List.append_nil];have E4:=ad e4;clear e1 e2 e3 e4 hf;go_enter Tryz.func212,Tryz.ntmps212;go_wp2_with fail;refine(oK w H.out hF).mono ?_;rintro e w2 ⟨rfl,b2⟩;rw[E4.out];have B2:=ad b2;clear b2;go_wp2_with fail;go_ret2;exact⟨rfl,H.out.stay B2.out⟩
  ·have hnf:¬(n=0\/full F ys.length) :=fun h=>h.elim h0 hf;have hkp:=qd (cs:=cs) (r:=r) h0 hf HFL.out;have e2:Fh F ys.length n=0:=by unfold Fh;rw[if_neg h0,if_neg hf]
   have e3:Mu F ys.length r n=r+1:=if_neg hnf;obtain⟨k,hk⟩:=named (oL cs F ys.length r n);have hkn:=uI cs F ys.length r n;have hkf:Hid (0<=F-> ((ys.length+k:Nat) :Int)<=F) :=by show _->_;intro h;rw[hk.out];exact qt h (HFL.out h)
   rw[<- hk.out]at hkp hkn;rw[<- hk.out,e2,e3];obtain⟨C,hC⟩:=named (dN cs r);obtain⟨R,hR⟩:=named (pt F ys.length)
   have HK:Hid (min (min (n:Int) C) R=k) :=by
    show _=_;rw[hk.out,hC.out,hR.out];unfold oL pt;rw[if_neg hnf];have:=HFL.out;have:=jw cs r
    split<;>split<;>omega
   have hR0: (R==0) =false:=by
    have:R≠0:=by
     rw[hR.out];unfold pt;unfold full at hf
     split<;>omega
    simpa using this
   clear e2 e3 hnf hf;go_enter Tryz.func212,Tryz.ntmps212;go_wp2_with fail;refine(oK w H.out hF).mono ?_;rintro e w1 ⟨rfl,b1⟩;rw[<- hR.out];have H1:=ad (H.out.below b1);have B1:=ad b1;clear b1;go_wp2_with fail;refine(yE w1 H1.out).mono ?_;rintro e w2 ⟨rfl,b2⟩;rw[<- hC.out];have H2:=ad (H1.out.below b2);have B2:=ad (B1.out.trans (b2.mono B1.out.size));clear b2;go_wp2_with fail;refine(oK w2 H2.out hF).mono ?_;rintro e w3 ⟨rfl,b3⟩;rw[<- hR.out];have B3:=ad (B2.out.trans (b3.mono B2.out.size));obtain⟨da,dc,sa,sc,h1,h2,h3,h4,h5,h6,h7,h8,h9,h10,h11,h12⟩:=H2.out.below b3;clear b3;obtain⟨L,hL⟩:=named ys.length;have X3:=ad (HB.out.below B3.out);have T3:=ad h1;have O3:=ad h2;have N3:=ad h9;have c2:=h1.get 2 rfl;rw[<- hL.out]at c2 hn;have XL:Hid ((bs.take k).length=k) :=by show _=_;rw[List.length_take,HL.out];omega
   have kc: (k:Int)<=cap:=by omega
   have kc':k<=cap:=by omega
   have r1: (r:Int)<=100000000:=by omega
   have H3:=ad h3;have H4:=ad h4;have H5:=ad h5;have H7:=ad h7;have H8:=ad h8;have H10:=ad h10;have H11:=ad h11;have HKN:=ad hkn;have HKP:=ad hkp;clear h1 h2 h3 h4 h5 h6 h7 h8 h9 h10 h11 h12 hkp hkn;go_wp2_with (refine pH rfl _ _ _ _ rfl .i64 .i64 .i64 n C R k rfl rfl rfl HK.out ?_);have ON:Hid (w3.ownsRow 0 5 1 (.slice da L dc) L (ys.map (.int .u8))) :=by show World.ownsRow _ _ _ _ _ _ _;rw[hL.out];exact O3.out
   have KN:Hid (L+k<=100000000) :=by show _<=_;have:=HKN.out;omega
   go_region_law (first| (refine qE rfl (.tmp 29) (.tmp 32) 25 rfl 5 .u8 1 Tryz.underlying25 Nu w3 (by repeat (first|exact aF|exact aO _ _ _|refine Below.drew ?_|refine Below.trans ?_ (aO _ _ _))) da L dc ys rfl ON.out a k cap (bs.take k) rfl (X3.out.take k).Bu XL.out (by have:=KN.out;unfold maxLen;omega) (by have:=KN.out;omega) ?_;intro a4 c4 w4 h4 o4 x4;have O4:=ad h4;have Q4:=ad o4;have X4:=ad x4;have T4:=ad (T3.out.only o4 (by rintro⟨x,h1,h2⟩;exact(N3.out x h1).2 h2));have g2:=T4.out.get 2 rfl;have g3:=T4.out.get 3 rfl;have f2:=T4.out.frozen 2;have f3:=T4.out.frozen 3;clear h4 o4 x4))
   all_goals
    go_wp2;go_ret2;have st:=iz.step T3.out H3.out H4.out H5.out H7.out H8.out N3.out H10.out H11.out (bs.take k) XL.out HKP.out (HB.out.bytes.take k) (by rw[<- hL.out];exact KN.out) (by rw[hL.out]at*;exact hkf.out) a4 c4 (by rw[<- hL.out];exact O4.out) Q4.out X4.out _ rfl;rw[<- hL.out]at st;have z:=B3.out.size;exact⟨rfl,st.1.grow (fun q hq=>hq.imp id fun hq=>⟨by omega,hq.2⟩) (fun q hq=>hq.elim (fun hq=>st.1.lt q (.inl hq)) (fun hq=>hq.2)),(aA.aq B3.out ah).trans st.2⟩
end Go.Proofs.YtcjagakckffkiaaGreatDoor
