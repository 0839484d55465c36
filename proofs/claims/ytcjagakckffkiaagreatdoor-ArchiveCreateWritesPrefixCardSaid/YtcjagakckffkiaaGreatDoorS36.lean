import Derived.Test.YtcjagakckffkiaaGreatDoorS35
set_option maxHeartbeats 16000000
set_option maxRecDepth 100000
namespace Go.Proofs.YtcjagakckffkiaaGreatDoor
namespace fQ
open Go.RowKit Go.Proofs.YtcjagakckffkiaaGreatDoor.Fit Pxr Pnm
theorem vL (k:Int)(p:ByteArray)(m:Int)(t:ByteArray)(s:Int)(w:World)(hp:p.size<=maxLen)(ht:t.size<=maxLen)(h:dn ⟨k,p,m,t,s⟩≠0) :
 Calls Tryz.prog 35 #[.agg (cB k p m t s).toArray] w (eO [] (dn ⟨k,p,m,t,s⟩) w) :=by
 have HO:=aa Aw;have HZ:=aa Fg;have PL:=aa fun w'=>oQ ⟨k,p,m,t,s⟩ w' hp ht;obtain⟨e1,e2⟩:=iA h;unfold nS at PL;rw[e1,e2]at PL;obtain⟨E,hE⟩:=named (dn ⟨k,p,m,t,s⟩);rw[<- hE.out]at PL h;rw[<- hE.out];have n0: (E !=0) =true:=by simp[h]
 clear hp ht h e1 e2;go_enter Tryz.func35,Tryz.ntmps35;go_wp2_with (first| (refine af rfl 68 _ rfl (cB k p m t s) rfl ?_;intro w1 g1 b1;have E1:=aa g1;have B1:=aa b1;have c0:=E1.out.get 0 rfl;have c1:=E1.out.get 1 rfl;have c2:=E1.out.get 2 rfl;have c3:=E1.out.get 3 rfl;have c4:=E1.out.get 4 rfl;clear g1 b1));refine(PL.out w1).mono ?_;rintro e w2 ⟨b,n,c,rfl,hn,hc,hm,hR,b2⟩;have B2:=aa (ar B1.out b2);clear b2 hn hc hm hR c0 c1 c2 c3 c4;go_wp2_with (first| (refine ag rfl 145 rfl Ust.bX HZ.out ?_;intro w4 g4 b4;have R4:=aa g4;have A4:=aa b4;clear g4 b4) | (refine ae rfl 145 _ _ rfl w2.heap.size rfl (Ust.bX) Ust.bX rfl 145 R4.out HO.out.2 rfl (bL _ _ _ _ _ _) ?_;intro w5 g5 t5;have B5:=aa (ar B2.out (A4.out.trans (t5.below aj)));clear g5 t5));go_ret2;exact .nil B5.out
section
variable {k:Int} {p:ByteArray} {m:Int} {t:ByteArray} {s:Int}
theorem yC (w:World)(hp:p.size<=maxLen)(ht:t.size<=maxLen)(h:dn ⟨k,p,m,t,s⟩=0) :
 Calls Tryz.prog 35 #[.agg (cB k p m t s).toArray] w (eO (nP ⟨k,p,m,t,s⟩) 0 w) :=by
 have HO:=aa Aw;have HZ:=aa Fg;have PL:=aa fun w'=>oQ ⟨k,p,m,t,s⟩ w' hp ht;obtain⟨e1,e2⟩:=gE h;unfold nS at PL;rw[e1,e2,h]at PL;have hok:=fw.1 h;obtain⟨z1,z2,z3,z4⟩:=yn hok;have EO:=aa (tW h);have EM:=aa (qI h);have HG:=aa (pU hok);have HVL:=aa (uA hok);have FL:=aa (mu h);have FP:=aa (xu (l:=jK ⟨k,p,m,t,s⟩));have FBY:=aa (mq (jK ⟨k,p,m,t,s⟩));have ENB:=aa (lZ ⟨k,p,m,t,s⟩);have HDL:Hid ((jZ (eZ ⟨k,p,m,t,s⟩)).length=512) := (gA (uz h)).2.2.1;have HDX:Hid (∀n:Nat,n<=262144-> (jZ (hX n)).length=512) :=fun n hn=> (gA (mB (n:=n) (by omega))).2.2.1;have EA:=aa fun(w':World) =>Ust.pW _ _ _ _ _ _ w' (by unfold maxLen;omega) (by unfold maxLen;omega) (by unfold maxLen;omega) z4;have EX:=aa fun(w':World) (n:Nat) (hn:n<=262144) =>Ust.pW 120 nY emp emp 0 (n:Int) w' (by decide) (by decide) (by decide) (mB (n:=n) (by omega));have HHB:Hid (Ust.cZ (eZ ⟨k,p,m,t,s⟩).T (eZ ⟨k,p,m,t,s⟩).nm (eZ ⟨k,p,m,t,s⟩).pf (eZ ⟨k,p,m,t,s⟩).lk (eZ ⟨k,p,m,t,s⟩).md (eZ ⟨k,p,m,t,s⟩).sz=jZ (eZ ⟨k,p,m,t,s⟩)) :=rfl;obtain⟨Y,hY⟩:=named (jZ (eZ ⟨k,p,m,t,s⟩));rw[<- hY.out]at HHB HDL EO EM;rw[HHB.out]at EA;obtain⟨L,hL⟩:=named (jK ⟨k,p,m,t,s⟩);rw[<- hL.out]at PL EO EM HG HVL FL FP FBY;obtain⟨R,hR⟩:=named (nP ⟨k,p,m,t,s⟩);rw[<- hR.out]at EO EM ENB;rw[<- hR.out];obtain⟨T,hT⟩:=named (eZ ⟨k,p,m,t,s⟩).T;obtain⟨nm,hnm⟩:=named (eZ ⟨k,p,m,t,s⟩).nm;obtain⟨pf,hpf⟩:=named (eZ ⟨k,p,m,t,s⟩).pf;obtain⟨lk,hlk⟩:=named (eZ ⟨k,p,m,t,s⟩).lk;obtain⟨md,hmd⟩:=named (eZ ⟨k,p,m,t,s⟩).md;obtain⟨sz,hsz⟩:=named (eZ ⟨k,p,m,t,s⟩).sz;rw[<- hT.out,<- hnm.out,<- hpf.out,<- hlk.out,<- hmd.out,<- hsz.out]at PL EA;obtain⟨i0,HI⟩:=dx (P:=Tryz.prog) (e:=5) (by kernel_rfl);have HI8:Hid ((Tryz.prog.info? 5).map (fun i=> (i.zero,i.size,i.bytes)) =some (some (.int .u8 0),1,1)) :=by show _=_;kernel_rfl
 clear hp ht h e1 e2 hok z1 z2 z3 z4 HHB;go_enter Tryz.func35,Tryz.ntmps35;go_wp2_with (first| (refine af rfl 68 _ rfl (cB k p m t s) rfl ?_;intro w1 g1 b1;have E1:=aa g1;have B1:=aa b1;have c0:=E1.out.get 0 rfl;have c1:=E1.out.get 1 rfl;have c2:=E1.out.get 2 rfl;have c3:=E1.out.get 3 rfl;have c4:=E1.out.get 4 rfl;clear g1 b1));refine(PL.out w1).mono ?_;rintro e w2 ⟨b,n,c,rfl,hn,hc,hm,hR2,b2⟩;have B2:=aa (ar B1.out b2);have HN:=aa hn;have HC:=aa hc;have HM:=aa hm;have I2:=aa hR2;clear b2 hn hc hm hR2 c0 c1 c2 c3 c4;by_cases hn0:n=0
 ·subst hn0;have HEO:=aa (EO.out HN.out);have OW:Hid (∀w':World,w'.ownsRow w.heap.size 5 1 (.slice none 0 0) 0 (([] :List Int).map (.int .u8))) :=fun w'=>jI w' _ _ _;go_wp2_with (first| (refine ag rfl 145 rfl Ust.bX HZ.out ?_;intro w4 g4 b4;have R4:=aa g4;have A4:=aa b4;clear g4 b4) | (refine ae rfl 145 _ _ rfl w2.heap.size rfl (Ust.bu T nm pf lk md sz) Ust.bX rfl 145 R4.out HO.out.2 rfl (bL _ _ _ _ _ _) ?_;intro w5 g5 t5;have X5:=aa g5;have A5:=aa (A4.out.trans (t5.below aj));have B5:=aa (ar B2.out A5.out);have d0:=X5.out.get 0 rfl;have d1:=X5.out.get 1 rfl;have d2:=X5.out.get 2 rfl;have d3:=X5.out.get 3 rfl;have d4:=X5.out.get 4 rfl;have d5:=X5.out.get 5 rfl;clear g5 t5));refine(EA.out w5).mono ?_;rintro e w6 ⟨g6,c6,rfl,a6,y6,b6⟩;have A6:=aa a6;have Y6:=aa y6;have B6:=aa (ar B5.out b6);clear a6 y6 b6 d0 d1 d2 d3 d4 d5;go_wp2_with (first| (at_builtin;refine bP rfl _ _ 25 rfl w.heap.size 5 i0 Tryz.underlying25 HI (.slice none 0 0) 0 [] rfl (OW.out w6) g6 0 512 c6 Y rfl A6.out HDL.out (by decide) B6.out.size ?_;intro v8 w8 h8 b8;have H8:=aa h8;have B8:=aa (B6.out.trans b8);clear h8 b8));go_ret2;exact .own (by rw[HEO.out];exact H8.out) ENB.out aj B8.out
 ·have hnn:L.length≠0:=by rw[HN.out];exact hn0
  have HEM:=aa (EM.out hnn);have HP1:=aa (FP.out hnn);have n1: (0:Int) <n:=by omega
  obtain⟨F,hF⟩:=named (fJ L);have ef:xr L=F:=by rw[hF.out];unfold xr;rw[if_pos HG.out]
  rw[<- hF.out]at HEM HP1 FL FBY;obtain⟨mF,hmF⟩:=named F.length;rw[<- hmF.out]at HEM HP1 FL;obtain⟨PN,hPN⟩:=named (bV mF)
  have HEQ:Hid (R= (jZ (hX mF) ++F++ao PN) ++Y) :=by
   show _=_;rw[HEM.out,hPN.out];unfold iT;rw[<- hmF.out];simp only[List.append_assoc]
  have HDX':=aa (HDX.out mF (by have:=FL.out;omega));obtain⟨X,hX⟩:=named (jZ (hX mF));have HXE:Hid (Ust.cZ 120 nY emp emp 0 (mF:Int) =X) :=by show _=_;rw[hX.out];rfl
  rw[<- hX.out]at HEQ HDX';obtain⟨A,hA⟩:=named (512+mF);have AM:Hid (A<=200000) :=by show _<=_;rw[hA.out];have:=FL.out;omega
  have PB:Hid (PN<512/\ (A+PN) % 512=0/\∀j,j<PN-> (A+j) % 512≠0) :=by
   show _/\_/\_;rw[hA.out,hPN.out];unfold bV;refine⟨by omega,by omega,fun j hj=>by omega⟩
  have mF8: (mF:Int)<=200000:=by have:=FL.out;omega
  have HEF:=aa ef;clear hnn hn0 ef;go_wp2_with (first| (refine ag rfl 145 rfl Ust.bX HZ.out ?_;intro w4 g4 b4;have R4:=aa g4;have A4:=aa b4;clear g4 b4) | (refine ae rfl 145 _ _ rfl w2.heap.size rfl (Ust.bu T nm pf lk md sz) Ust.bX rfl 145 R4.out HO.out.2 rfl (bL _ _ _ _ _ _) ?_;intro w5 g5 t5;have X5:=aa g5;have A5:=aa (A4.out.trans (t5.below aj));have B5:=aa (ar B2.out A5.out);have I5:=aa (I2.out.below A5.out);clear g5 t5));have FM:=rJ b n c L w5 (fun r hr=>Nat.le_trans (HVL.out r hr) (by unfold maxLen;decide)) HN.out HC.out HM.out I5.out;rw[HEF.out,HG.out]at FM;refine FM.mono ?_;rintro e w6 ⟨b6,m6,c6,rfl,l6,i6,bb6⟩;obtain rfl:mF=m6:=by rw[hmF.out];exact l6
  have I6:=aa i6;have B6:=aa (ar B5.out bb6);have X6:=aa (X5.out.below bb6 X5.out.lt);clear FM l6 i6 bb6;go_wp2_with fail;refine(EX.out w6 mF (by have:=FL.out;omega)).mono ?_;rintro e w7 ⟨g7,c7,rfl,a7,y7,b7⟩;rw[HXE.out]at a7;have A7:=aa a7;have Y7:=aa y7;have B7:=aa (ar B6.out b7);have X7:=aa (X6.out.below b7 X6.out.lt);have I7:=aa (I6.out.below b7);have OW:Hid (w7.ownsRow w7.heap.size 5 1 (.slice none 0 0) 0 (([] :List Int).map (.int .u8))) :=jI w7 _ _ _;clear a7 y7 b7;go_wp2_with (first| (at_builtin;refine bP rfl _ _ 25 rfl w7.heap.size 5 i0 Tryz.underlying25 HI (.slice none 0 0) 0 [] rfl OW.out g7 0 512 c7 X rfl A7.out HDX'.out (by decide) aj ?_;intro v8 w8 h8 b8;have H8:=aa h8;have B8:=aa b8;have I8:=aa (I7.out.below b8);clear h8 b8) | (at_builtin;refine bO rfl _ _ 25 rfl w7.heap.size 5 i0 Tryz.underlying25 HI v8 (0+512) ([] ++X) rfl H8.out b6 mF c6 F rfl I8.out hmF.out.symm (by have:=FL.out;omega) B8.out.size ?_;intro v9 w9 h9 b9;have H9:=aa h9;have B9:=aa (B8.out.trans b9);clear h9 b9))
  have H9':Hid (w9.ownsRow w7.heap.size 5 1 v9 A ((X++F++ao 0).map (.int .u8))) :=by
   show World.ownsRow _ _ _ _ _ _ _;have e:X++F++ao 0= [] ++X++F:=by unfold ao;simp
   rw[e,hA.out];have:=H9.out
   rwa [Nat.zero_add]at this
  clear H8 H9 B8 I8 I7;go_loopw [7] (fun v wr=>∃j q:Nat,q=A+j/\j<=PN/\wr.ownsRow w7.heap.size 5 1 v q ((X++F++ao j).map (.int .u8))/\Below w7.heap.size w7 wr) (fun v _=>match v with| .slice _ l _=>A+PN- l|_=>0)
  case atStart=>exact⟨0,A,rfl,Nat.zero_le _,H9'.out,B9.out⟩
  case round=>
   obtain⟨j,q,hq,hj,ho,hb⟩:=hrel;obtain⟨va,vc,rfl,_⟩:=bj ho;have HO':=aa ho;have HL:=aa hb;have HQ:=aa hq;have q8: (q:Int)<=300000:=by have:=AM.out;have:=PB.out.1;omega
   clear ho hb;by_cases hlt:j<PN
   ·have hr: ((q:Int) % 512 !=0) =true:=by
     have:=PB.out.2.2 j hlt;simp only[bne_iff_ne,ne_eq];omega
    have HR:=aa hlt;clear hq;go_wp2_with (first| (refine cK rfl 25 5 _ rfl Tryz.underlying25 HI8.out 0 rfl (by decide) ?_;intro wa ha ba;have HA:=aa ha;have BA:=aa ba;have OA:=aa (jH HO'.out ba aj);clear ha ba) | (at_builtin;refine bP rfl _ _ 25 rfl w7.heap.size 5 i0 Tryz.underlying25 HI _ q _ rfl OA.out wr.heap.size 0 1 1 [0] rfl HA.out.row rfl (by omega) (Nat.le_trans HL.out.size BA.out.size) ?_;intro vb wb hb bb;have HB:=aa hb;have BB:=aa ((ar HL.out BA.out).trans bb);clear hb bb));go_roundw
    case rel=>
     refine⟨j+1,q+1,by have:=HQ.out;omega,HR.out,?_,BB.out⟩;have e:X++F++ao (j+1) =X++F++ao j++ [0] :=by unfold ao;rw[List.replicate_succ',List.append_assoc (X++F)]
     rw[e];exact HB.out
    case measure=>
     obtain⟨_,_,rfl,_⟩:=bj HB.out;have:=HQ.out;have:=HR.out;simp only;omega
   ·obtain rfl:j=PN:=by omega
    have hr: ((q:Int) % 512 !=0) =false:=by
     have:=PB.out.2.1;have h: (q:Int) % 512=0:=by omega
     rw[h];rfl
    have X9:=aa (X7.out.below HL.out X7.out.lt);have d0:=X9.out.get 0 rfl;have d1:=X9.out.get 1 rfl;have d2:=X9.out.get 2 rfl;have d3:=X9.out.get 3 rfl;have d4:=X9.out.get 4 rfl;have d5:=X9.out.get 5 rfl;clear hq hlt hj;go_wp2_with fail;refine(EA.out wr).mono ?_;rintro e w10 ⟨g10,c10,rfl,a10,y10,b10⟩;have A10:=aa a10;have O10:=aa (jH HO'.out b10 aj);have B10:=aa (ar HL.out b10);clear a10 y10 b10 d0 d1 d2 d3 d4 d5;go_wp2_with (first| (at_builtin;refine bP rfl _ _ 25 rfl w7.heap.size 5 i0 Tryz.underlying25 HI _ q _ rfl O10.out g10 0 512 c10 Y rfl A10.out HDL.out (by omega) B10.out.size ?_;intro v11 w11 h11 b11;have H11:=aa h11;have B11:=aa (B10.out.trans b11);clear h11 b11));go_ret2;exact .own (by rw[HEQ.out];exact H11.out) ENB.out B7.out.size (B7.out.trans (B11.out.mono B7.out.size))
end
theorem yA (e:fM)(w:World)(hp:e.p.size<=maxLen)(ht:e.t.size<=maxLen) :
 Calls Tryz.prog 35 #[.agg (cB e.k e.p e.m e.t e.s).toArray] w (eO (nP e) (dn e) w) :=by
 obtain⟨k,p,m,t,s⟩:=e;by_cases h:dn ⟨k,p,m,t,s⟩=0
 ·rw[h];exact yC w hp ht h
 ·rw[tV h];exact vL k p m t s w hp ht h
end fQ
namespace Flt
open Go.RowKit Go.Proofs.YtcjagakckffkiaaGreatDoor.Fit Pnm Tre
def jb (B:Nat)(w:World)(u:dh) :Prop:=w.ownsRow B 5 1 (.slice u.a u.n.d.length u.cap) u.n.d.length (u.n.d.map (.int .u8))
structure lO (u:dh) :Prop where
 k: (Lit.int .i64 u.n.e.k).wf=true
 p:u.n.e.p.size<=140737488355328
 m: (Lit.int .i64 u.n.e.m).wf=true
 t:u.n.e.t.size<=140737488355328
 s: (Lit.int .i64 u.n.e.s).wf=true
 z:∀z∈u.n.d,(Lit.int .u8 z).wf=true
 l:u.n.d.length<=140737488355328
theorem lO.f {B:Nat}{w:World}{u:dh}(h:lO u)(hf:jb B w u) :qt w u:=by
 obtain⟨b,cap',hv,hi,hc,hm,hl,hx⟩:=bj hf;injection hv with e1 _ e3;refine⟨h.k,h.p,h.m,h.t,h.s,?_,h.l⟩;rw[e1,e3];refine⟨rfl,hc,hm,h.z,?_⟩;rcases Nat.eq_zero_or_pos u.n.d.length with h0|h0
 ·exact .inl h0
 ·obtain⟨b',off,rfl,hlt⟩:=hi.plain h0;exact .inr ⟨b',off,rfl,hlt,fun i hi'=>hi.get i hi'⟩
theorem qX (B:Nat)(w:World)(e:fM) :jb B w ⟨⟨e,[]⟩,none,0⟩:=⟨rfl,.inl ⟨rfl,rfl⟩⟩
theorem jb.below {B:Nat}{w w':World}{u:dh}(h:jb B w u)(hb:Below w.heap.size w w') :jb B w' u:=bS h hb aj
theorem jb.kept {B C j:Nat}{w w':World}{u:dh}{v:Value}{us:List dh}(h:jb C w u)(ho:w.ownsRow B 70 6 v j (aF us))(hk:∀k,k<w.heap.size->some k≠v.ownBlock->w'.heap[k]? =w.heap[k]?) :jb C w' u:=by
 obtain⟨h1,h2⟩:=h;refine⟨h1,h2.imp id ?_⟩;rintro⟨b,cap,cur',hv,hb,hh,r⟩;have hlt:b<w.heap.size:= (Array.getElem?_eq_some_iff.1 hh).1;refine⟨b,cap,cur',hv,hb,(hk b hlt ?_).trans hh,r⟩;rcases ho.2 with⟨e,_⟩|⟨g,c,cur,e,_,hg,_⟩
 ·subst e;intro h;cases h
 ·subst e;intro h;have h:some b=some g:=h;injection h with h;subst h;rw[hh]at hg;injection hg with hg;injection hg with _ hg _;exact absurd hg (by decide)
structure RM (B:Nat) (C:List Nd) (w:World) (us:List dh) (j:Nat) (v:Value) :Prop where
 own:w.ownsRow B 70 6 v j (aF us)
 el:∀i u,us[i]? =some u->u.n=mb C i/\lO u/\jb B w u
theorem RM.len {B:Nat}{C:List Nd}{w:World}{us:List dh}{j:Nat}{v:Value}(h:RM B C w us j v) :us.length=j:=by
 have:=h.own.1;rw[dp]at this;omega
theorem RM.below {B:Nat}{C:List Nd}{w w':World}{us:List dh}{j:Nat}{v:Value}(h:RM B C w us j v)(hb:Below w.heap.size w w') :RM B C w' us j v:=
 ⟨bS h.own hb aj,fun i u hu=>⟨(h.el i u hu).1,(h.el i u hu).2.1,(h.el i u hu).2.2.below hb⟩⟩
theorem RM.next {B:Nat}{C:List Nd}{w w':World}{us:List dh}{j:Nat}{v v':Value}(h:RM B C w us j v){u:dh}(hn:u.n=mb C j)(hs:lO u)(hf:jb B w u)
 (ho:w'.ownsRow B 70 6 v' (j+1) (aF (us++ [u])))(hk:∀k,k<w.heap.size->some k≠v.ownBlock->w'.heap[k]? =w.heap[k]?) :RM B C w' (us++ [u]) (j+1) v':=by
 refine⟨ho,fun i x hx=>?_⟩;have hl:=h.len;by_cases hi:i<us.length
 ·rw[List.getElem?_append_left hi]at hx;obtain⟨h1,h2,h3⟩:=h.el i x hx;exact⟨h1,h2,h3.kept h.own hk⟩
 ·rw[List.getElem?_append_right (by omega)]at hx
  have:i- us.length=0:=by
   have:= (List.getElem?_eq_some_iff.mp hx).1;simp at this;omega
  rw[this]at hx;obtain rfl:u=x:=by simpa using hx
  have:i=j:=by omega
  subst this;exact⟨hn,hs,hf.kept h.own hk⟩
theorem RM.done {B:Nat}{C:List Nd}{w:World}{us:List dh}{n:Nat}{v:Value}(h:RM B C w us n v)(hn:C.length=n) :wz us=uq C/\∀u∈us,qt w u:=by
 have hl:=h.len;constructor
 ·refine List.ext_getElem? fun i=>?_;by_cases hi:i<n
  ·have e:us[i]? =some us[i] :=List.getElem?_eq_getElem (by omega);rw[pK e,iS (by omega),(h.el i _ e).1]
  ·rw[List.getElem?_eq_none (by rw[lJ];omega),List.getElem?_eq_none (by rw[fi];omega)]
 ·intro u hu;obtain⟨i,hi,rfl⟩:=List.getElem_of_mem hu;obtain⟨_,h2,h3⟩:=h.el i _ (List.getElem?_eq_getElem hi);exact h2.f h3
def Mt (C:List Nd)(i j:Nat) :Prop:=0< (nd C i).c/\ (nd C j).c= (nd C i).c
structure ET (C:List Nd) (i b:Nat) :Prop where
 le:b<=i
 m:b<i->Mt C i b
 no:∀j,j<b->¬Mt C i j
theorem ET.fr {C:List Nd}{i b:Nat}(h:ET C i b)(hi:i<C.length) : (b=i->fr C i (nd C i).c=none)/\ (b<i->fr C i (nd C i).c=some (nd C b)) :=by
 have no:∀j,j<b->¬(0< (nd C j).c/\ (nd C j).c= (nd C i).c) :=fun j hj hm=>h.no j hj ⟨by omega,hm.2⟩;constructor
 ·rintro rfl;exact(fO (Nat.le_of_lt hi)).mpr no
 ·intro hb;have hm:=h.m hb;unfold Mt at hm;exact Cj (Nat.le_of_lt hi) hb (by omega) hm.2 ((fO (by omega)).mpr no)
theorem sY (a:Option Addr)(n cap:Nat)(zs:List aP)(i:Nat)(w:World)(ha:bA w a n cap zs)(hC:Can (ax zs))(hi:i<n)(h40:n<=1759218604441) :
 Calls Tryz.prog 71 #[.slice a n cap,.int .i64 (i:Int)] w fun e w'=>∃b:Nat,e= .returned (.int .i64 (b:Int))/\ET (ax zs) i b/\Below w.heap.size w w':=by
 have HA:=aa ha;have CAN:Hid (Can (ax zs)) :=hC;have HI:=aa hi;have HN:Hid ((ax zs).length=n) :=by show _=_;rw[aV];exact ha.n
 have nc: (n:Int)<=cap:=by have:=ha.c;omega
 have n40: (n:Int)<=1759218604441:=by omega
 have i1: (i:Int) <n:=by omega
 obtain⟨b,off,yi,rfl,hb,hyi,hfi,hat⟩:=ha.get i hi;have AT:=aa hat;have BL:=aa hb;have EI:Hid (nd (ax zs) i=yi.n) :=fS hyi;have YI:=aa fun(q:Of fun w'=>Below w.heap.size w w') => (hat.below q.h hb).c hyi;clear ha hC hi hb hyi hfi hat;obtain⟨ci,hci⟩:∃ci,ci=yi.n.c:=⟨_,rfl⟩;have CI:Hid ((nd (ax zs) i).c=ci) :=by show _=_;rw[EI.out,hci]
 have x5:∀q:Of (fun w'=>Below w.heap.size w w'),q.w.cell? ⟨b,off+i*6+5,none⟩=some (.int .i64 ci) :=fun q=>by rw[hci];exact(YI.out q).2.2.2.2.2
 clear hci EI YI;go_enter Tryz.func71,Tryz.ntmps71;go_wp2_with fail;go_loopw [6,5] (fun s t wr=>∃k u:Nat,s= .int .i64 k/\t= .int .i64 u/\k<=n/\u<=i/\ (u<i->u<k/\Mt (ax zs) i u)/\ (∀j,j<k->j<u->¬Mt (ax zs) i j)/\Below w.heap.size w wr) (fun s _ _=>n- (intOf s).toNat)
 case atStart=>exact⟨0,i,rfl,rfl,Nat.zero_le _,aj,fun h=>absurd h (Nat.lt_irrefl _),fun j h=>absurd h (Nat.not_lt_zero j),au⟩
 case round=>
  obtain⟨k,u,rfl,rfl,hk,hu,hm,hno,hW⟩:=hrel;have HM:=aa hm;have HNO:=aa hno;have HW:=aa hW;have HU:=aa hu;clear hm hno hW;by_cases hkn:k<n
  ·have k1: (k:Int) <n:=by omega
   have u1: (u:Int) <n:=by have:=HI.out;omega
   have KN:=aa hkn;clear hkn hk hu;obtain⟨yk,hyk⟩:∃y,zs[k]? =some y:=⟨_,List.getElem?_eq_getElem (by have:=HN.out;rw[aV]at this;have:=KN.out;omega)⟩;obtain⟨yu,hyu⟩:∃y,zs[u]? =some y:=⟨_,List.getElem?_eq_getElem (by have:=HN.out;rw[aV]at this;have:=HU.out;have:=HI.out;omega)⟩;have EK:Hid (nd (ax zs) k=yk.n) :=fS hyk;have EU:Hid (nd (ax zs) u=yu.n) :=fS hyu;have YK:=aa fun(q:Of fun w'=>Below w.heap.size w w') => (AT.out.below q.h BL.out).c hyk;have YU:=aa fun(q:Of fun w'=>Below w.heap.size w w') => (AT.out.below q.h BL.out).c hyu;have PK:=aa (Nat.le_trans (HA.out.s yk (List.mem_of_getElem? hyk)).p (show 140737488355328<=maxLen by decide));clear hyk hyu;obtain⟨ck,hck⟩:∃ck,ck=yk.n.c:=⟨_,rfl⟩;obtain⟨pk,hpk⟩:∃pk,pk=yk.n.p:=⟨_,rfl⟩;obtain⟨pu,hpu⟩:∃pu,pu=yu.n.p:=⟨_,rfl⟩;have CK:Hid ((nd (ax zs) k).c=ck) :=by show _=_;rw[EK.out,hck]
   have PKK:Hid (key (nd (ax zs) k) =ad pk) :=by show _=_;rw[EK.out,hpk];rfl
   have PUU:Hid (key (nd (ax zs) u) =ad pu) :=by show _=_;rw[EU.out,hpu];rfl
   have k5:∀q:Of (fun w'=>Below w.heap.size w w'),q.w.cell? ⟨b,off+k*6+5,none⟩=some (.int .i64 ck) :=fun q=>by rw[hck];exact(YK.out q).2.2.2.2.2
   have k2:∀q:Of (fun w'=>Below w.heap.size w w'),q.w.cell? ⟨b,off+k*6+1,none⟩=some (.string pk) :=fun q=>by rw[hpk];exact(YK.out q).2.1
   have u2:∀q:Of (fun w'=>Below w.heap.size w w'),q.w.cell? ⟨b,off+u*6+1,none⟩=some (.string pu) :=fun q=>by rw[hpu];exact(YU.out q).2.1
   have PKL:Hid (pk.size<=maxLen) :=by show _<=_;rw[hpk];exact PK.out
   clear hck hpk hpu EK EU YK YU PK;by_cases hc:0<ci
   ·have d1:decide (0<ci) =true:=decide_eq_true hc;by_cases he:ck=ci
    ·have ne: (ck==ci) =true:=by simpa using he
     have MK:Hid (Mt (ax zs) i k) :=⟨by rw[CI.out];exact hc,by rw[CK.out,CI.out,he]⟩;obtain⟨Z,hZ⟩:=named (aR (ad pk) (ad pu));have RC:Hid (∀q:World,Calls Tryz.prog 51 #[.string pk,.string pu] q fun e w'=>e= .returned (.int .i64 Z)/\Below q.heap.size q w') :=fun q=>by rw[hZ.out];exact rF pk pu q PKL.out
     have ZK:Hid (Z<0↔k<u) :=by
      show _↔_;rw[hZ.out,<- PKK.out,<- PUU.out];rcases Nat.lt_trichotomy k u with l|l|l
      ·have:=CAN.out.lt l (by rw[HN.out];have:=HU.out;have:=HI.out;omega);rw[this];simp[l]
      ·subst l;rw[(cmp_eq _ _).mpr rfl];simp
      ·have:=CAN.out.lt l (by rw[HN.out];exact KN.out);rw[fe,this];simp;omega
     clear hZ he;by_cases hku:k<u
     ·have d2:decide (Z<0) =true:=decide_eq_true (ZK.out.mpr hku);have z0:Z<0:=ZK.out.mpr hku;go_wp2_with fail;refine aq (S:=fun w'=>Below w.heap.size w w') (by kernel_rfl) (by kernel_rfl) HW.out.drew ?_;intro hne'
      repeat (go_big_quiet_step ((go_at_call 51;exact Calls.dX (RC.out _) fun w' hb q=>q.trans (hb.mono q.size))))
      refine wpQuiet_nil ?_;rintro wq ⟨q,rfl⟩;go_wp2
      go_round
      case rel=>exact⟨k+1,k,by go_num,rfl,by have:=KN.out;omega,by have:=HU.out;omega,fun _=>⟨by omega,MK.out⟩,fun j hj hj'=>HNO.out j hj' (by omega),q.h⟩
      case measure=>simp[intOf];have:=KN.out;omega
     ·have z0:¬Z<0:=fun h=>hku (ZK.out.mp h);have d2:decide (Z<0) =false:=decide_eq_false z0;go_wp2_with fail;refine aq (S:=fun w'=>Below w.heap.size w w') (by kernel_rfl) (by kernel_rfl) HW.out.drew ?_;intro hne'
      repeat (go_big_quiet_step ((go_at_call 51;exact Calls.dX (RC.out _) fun w' hb q=>q.trans (hb.mono q.size))))
      refine wpQuiet_nil ?_;rintro wq ⟨q,rfl⟩;go_wp2
      go_round
      case rel=>exact⟨k+1,u,by go_num,rfl,by have:=KN.out;omega,HU.out,fun h=>⟨by have:= (HM.out h).1;omega,(HM.out h).2⟩,fun j hj hj'=>HNO.out j (by omega) hj',q.h⟩
      case measure=>simp[intOf];have:=KN.out;omega
    ·have ne: (ck==ci) =false:=by simpa using he
     have NK:Hid (¬Mt (ax zs) i k) :=fun h=>he (by have:=h.2;rw[CK.out,CI.out]at this;exact this);clear he k2 u2;go_wp2_with fail;refine aq (S:=fun w'=>Below w.heap.size w w') (by kernel_rfl) (by kernel_rfl) HW.out.drew ?_;intro hne'
     repeat (go_big_quiet_step (fail))
     refine wpQuiet_nil ?_;rintro wq ⟨q,rfl⟩;go_wp2
     go_round
     case rel=>exact⟨k+1,u,by go_num,rfl,by have:=KN.out;omega,HU.out,fun h=>⟨by have:= (HM.out h).1;omega,(HM.out h).2⟩,fun j hj hj'=>by
      by_cases e:j=k
      ·rw[e];exact NK.out
      ·exact HNO.out j (by omega) hj',q.h⟩
     case measure=>simp[intOf];have:=KN.out;omega
   ·have d1:decide (0<ci) =false:=decide_eq_false hc;have NK:Hid (∀j,¬Mt (ax zs) i j) :=fun j h=>hc (by have:=h.1;rw[CI.out]at this;exact this);clear k2 u2 k5;go_wp2_with fail;refine aq (S:=fun w'=>Below w.heap.size w w') (by kernel_rfl) (by kernel_rfl) HW.out.drew ?_;intro hne'
    repeat (go_big_quiet_step (fail))
    refine wpQuiet_nil ?_;rintro wq ⟨q,rfl⟩;go_wp2
    go_round
    case rel=>exact⟨k+1,u,by go_num,rfl,by have:=KN.out;omega,HU.out,fun h=>absurd (HM.out h).2 (NK.out u),fun j _ _=>NK.out j,q.h⟩
    case measure=>simp[intOf];have:=KN.out;omega
  ·obtain rfl:k=n:=by omega
   have LE:Hid (ET (ax zs) i u) :=⟨hu,fun h=> (HM.out h).2,fun j hj=>HNO.out j (by have:=HI.out;omega) hj⟩;go_wp2;go_ret;exact⟨u,rfl,LE.out,HW.out⟩
end Flt
namespace Tre
open Go.RowKit Go.Proofs.YtcjagakckffkiaaGreatDoor.Fit
theorem nu (k:Int)(p:ByteArray)(m:Int)(t:ByteArray)(a:Option Addr)(d:List Int)(cap:Nat)(c:Int)(w:World)(hp:p.size<=maxLen)(ht:t.size<=maxLen) :
 Calls Tryz.prog 114 #[.agg (cg k p m t a d.length cap c).toArray] w fun e w'=>e= .returned (.int .i64 (cI ⟨k,p,m,t,d,c⟩))/\Below w.heap.size w w':=by
 obtain⟨R,hR⟩:=named (cI ⟨k,p,m,t,d,c⟩);obtain⟨E,hE⟩:=named (dn ⟨k,p,m,t,if k=1 then(d.length:Int)else 0⟩);have HR:Hid (0<=k->k<=2->R=if E≠0 then E else if k≠1/\0<d.length then 2 else if c<0\/ (k≠1/\c≠0)then 15 else 0) :=fun h1 h2=>xW hR.out h1 h2 hE.out;have HB:Hid (¬(0<=k/\k<=2)->R=8) :=fun h=>by rw[hR.out];unfold cI;dsimp only;rw[if_pos (by omega)]
 obtain⟨N,hN⟩:=named d.length;obtain⟨S,hS⟩:=named (if k=1 then(N:Int)else 0)
 have HC:Hid (∀w',Calls Tryz.prog 82 #[.agg (cB k p m t S).toArray] w' fun e w''=>e= .returned (.int .i64 E)/\Below w'.heap.size w' w'') :=fun w'=>by
  rw[hE.out,<- hN.out,<- hS.out];exact cv k p m t S w' hp ht
 have HE:Hid (∀w',Calls Tryz.prog 70 #[.agg (cg k p m t a N cap c).toArray] w' fun e w''=>e= .returned (.agg (cB k p m t S).toArray)/\Below w'.heap.size w' w'') :=fun w'=>by
  rw[hS.out];exact ns k p m t a N cap c w'
 rw[<- hR.out];rw[<- hN.out]at HR⊢;clear hR hE hN hS hp ht;by_cases hk:0<=k/\k<=2
 ·have HR':=aa (HR.out hk.1 hk.2);have k0:¬k<0:=by omega
  have k2:¬(2:Int) <k:=by omega
  clear HR HB;go_enter Tryz.func114,Tryz.ntmps114;go_wp2_with (first| (refine af rfl 77 _ rfl (cg k p m t a N cap c) rfl ?_;intro w1 g1 b1;have G1:=aa g1;have B1:=aa b1;have c0:=g1.get 0 rfl;have c1:=g1.get 1 rfl;have c2:=g1.get 2 rfl;have c3:=g1.get 3 rfl;have c4:=g1.get 4 rfl;have c5:=g1.get 5 rfl;clear g1 b1));refine(HE.out w1).mono ?_;rintro e w2 ⟨rfl,b2⟩;have G2:=aa (G1.out.below b2 G1.out.lt);have B2:=aa (ar B1.out b2);clear b2 c0 c1 c2 c3 c4 c5 HE k0 k2;go_wp2_with fail;refine(HC.out w2).mono ?_;rintro e w3 ⟨rfl,b3⟩;have G3:=aa (G2.out.below b3 G2.out.lt);have B3:=aa (ar B2.out b3);have c0:=G3.out.get 0 rfl;have c4:=G3.out.get 4 rfl;have c5:=G3.out.get 5 rfl;clear b3 HC;by_cases z:E=0
  ·subst z;by_cases k1:k=1
   ·subst k1
    have HQ:Hid (R=if c<0 then 15 else 0) :=by
     show _=_;rw[HR'.out,if_neg (by simp),if_neg (c:= (1:Int)≠1/\_) (by omega)];by_cases z:c<0
     ·rw[if_pos (c:=c<0\/_) (.inl z),if_pos z]
     ·rw[if_neg (c:=c<0\/_) (by omega),if_neg z]
    clear HR' hk;by_cases zc:c<0
    ·have e:=HQ.out;rw[if_pos zc]at e;subst e;clear HQ;go_wp2_with fail;go_ret;exact⟨rfl,B3.out⟩
    ·have e:=HQ.out;rw[if_neg zc]at e;subst e;clear HQ;go_wp2_with fail;go_ret;exact⟨rfl,B3.out⟩
   ·have n2: (k !=1) =true:=by simpa using k1
    have HQ:Hid (R=if 0<N then 2 else if c=0 then 0 else 15) :=by
     show _=_;rw[HR'.out,if_neg (by simp)];by_cases z:0<N
     ·rw[if_pos (c:=k≠1/\_) ⟨k1,z⟩,if_pos z]
     ·rw[if_neg (c:=k≠1/\_) (fun h=>z h.2),if_neg z];by_cases z:c=0
      ·rw[if_neg (c:=c<0\/_) (by omega),if_pos z]
      ·rw[if_pos (c:=c<0\/_) (.inr ⟨k1,z⟩),if_neg z]
    clear HR' hk k1;by_cases zn:0<N
    ·have e:=HQ.out;rw[if_pos zn]at e;subst e;have zi: (0:Int) <N:=by omega
     clear HQ zn;go_wp2_with fail;go_ret;exact⟨rfl,B3.out⟩
    ·have zi:¬(0:Int) <N:=by omega
     by_cases zc:c=0
     ·have e:=HQ.out;rw[if_neg zn,if_pos zc]at e;subst e;subst zc;clear HQ zn;go_wp2_with fail;go_ret;exact⟨rfl,B3.out⟩
     ·have e:=HQ.out;rw[if_neg zn,if_neg zc]at e;subst e;have nz: (c !=0) =true:=by simpa using zc
      clear HQ zn;by_cases zl:c<0
      ·clear nz zc;go_wp2_with fail;go_ret;exact⟨rfl,B3.out⟩
      ·clear zc;go_wp2_with fail;go_ret;exact⟨rfl,B3.out⟩
  ·have e:=HR'.out;rw[if_pos z]at e;subst e;have nz: (R !=0) =true:=by simpa using z
   clear HR' z;go_wp2_with fail;go_ret;exact⟨rfl,B3.out⟩
 ·have e:=HB.out hk;subst e;clear HR HB HC HE;by_cases k0:k<0
  ·go_enter Tryz.func114,Tryz.ntmps114;go_wp2_with (first| (refine af rfl 77 _ rfl (cg k p m t a N cap c) rfl ?_;intro w1 g1 b1;have B1:=aa b1;have c0:=g1.get 0 rfl;clear g1 b1));go_ret;exact⟨rfl,B1.out⟩
  ·have k2: (2:Int) <k:=by omega
   go_enter Tryz.func114,Tryz.ntmps114;go_wp2_with (first| (refine af rfl 77 _ rfl (cg k p m t a N cap c) rfl ?_;intro w1 g1 b1;have B1:=aa b1;have c0:=g1.get 0 rfl;clear g1 b1));go_ret;exact⟨rfl,B1.out⟩
end Tre
end Go.Proofs.YtcjagakckffkiaaGreatDoor
