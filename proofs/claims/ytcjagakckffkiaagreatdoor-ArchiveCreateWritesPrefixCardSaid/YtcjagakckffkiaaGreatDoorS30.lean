import Derived.Test.YtcjagakckffkiaaGreatDoorS29
set_option maxHeartbeats 16000000
set_option maxRecDepth 100000
namespace Go.Proofs.YtcjagakckffkiaaGreatDoor
namespace Tre
open Go.RowKit Go.Proofs.YtcjagakckffkiaaGreatDoor.Fit Pnm Go.Sort
theorem BH (w0:World)(g:Nat)(d0:Array aP)(R:RowK eY 6 w0 g 0 d0)(ys:List aP)(W:World)(hW:SW w0 g ys W)(N:Nat)(hN:ys.length=N)(hs:N=d0.size)(cap a m b:Nat)(ham:a<m)(hmb:m<b)(hb:b<=N)(hm:N<=1000000)(s1:Stab.bp aT ys a m)(s2:Stab.bp aT ys m b)(h0:m≠a+1)(h1:b≠m+1)(L:Nat)(hL:b- a<=L+1)(IH:Ce w0 g N cap L) :
 Calls Tryz.prog 194 #[.slice (some ⟨g,0,none⟩) N cap,.int .i64 a,.int .i64 m,.int .i64 b,.func (.func 96) #[] #[]] W fun e w'=>e= .returned (.tuple #[])/\∃zs,Stab.kO aT ys zs a b/\SW w0 g zs w':=by
 have HR:=aa R;have HW:=aa hW;have HS:=aa hs;have HN:=aa hN;have S1:=aa s1;have S2:=aa s2;have HAM:=aa ham;have HMB:=aa hmb;have HB:=aa hb;have NM:=aa hm
 have aE:∀w,(isAgg 77).run Tryz.prog w= .ok true w:=fun w=>by
  unfold isAgg;rw[Sem.run_bind,run_underlying Tryz.underlying77 w];simp
 obtain⟨K,hK⟩:=named 6;have zE:∀w,(Go.sizeOf 77).run Tryz.prog w= .ok K w:=fun w=>by rw[hK.out];rfl
 have mixed:Tryz.prog.follows .mixedOrders=true:=by kernel_rfl
 have bi: (b:Int)<=1000000:=by omega
 have mi: (m:Int)<=1000000:=by omega
 have ai: (a:Int)<=1000000:=by omega
 have bN: (b:Int)<=N:=by omega
 have mN: (m:Int) <N:=by omega
 have aN: (a:Int) <N:=by omega
 have m0: ((m:Int) - a==1) =false:=by simp;omega
 have m1: ((b:Int) - m==1) =false:=by simp;omega
 obtain⟨M,hM⟩:=named ((a+b) /2);have hMi: ((a:Int) +b) /2= (M:Int) :=by have:=hM.out;omega
 have HM1:Hid (M*2<=a+b/\a+b<=M*2+1) :=by show _/\_;have:=hM.out;omega
 have AM2:Hid (a+2<=M/\M+1<=b) :=by show _/\_;have:=HM1.out;omega
 have Mi: (M:Int)<=1000000:=by have:=HM1.out;omega
 have HIH:=aa IH;have HLL:=aa hL;have LH:=aa (Stab.Ed HAM.out HMB.out HM1.out.1 HM1.out.2);have CUT:Hid (∀s,Stab.lo a m b M<=s->s<=Stab.hi m M-> (Stab.lo a m b M<s->¬Stab.B aT ys (M+m- 1) (s- 1))-> (s<Stab.hi m M->Stab.B aT ys (M+m- 1) s)->Stab.Cut aT ys a m b M s) :=fun s h1 h2 h3 h4=>Stab.CF HAM.out HMB.out HM1.out.1 HM1.out.2 S1.out S2.out h1 h2 h3 h4;have MONO:Hid (∀c d,Stab.lo a m b M<=c->c<=d->d<Stab.hi m M->Stab.B aT ys (M+m- 1) c->Stab.B aT ys (M+m- 1) d) :=fun c d h1 h2 h3 h4=>Stab.Cw HAM.out HMB.out HM1.out.1 HM1.out.2 S1.out S2.out h1 h2 h3 h4
 have ROT:Hid (∀(s e:Nat) (wq:World),SW w0 g ys wq->s<m->m<e->e<=N->Calls Tryz.prog 218 #[.slice (some ⟨g,0,none⟩) N cap,.int .i64 s,.int .i64 m,.int .i64 e,.func (.func 96) #[] #[]] wq fun e' w'=>e'= .returned (.tuple #[])/\∃zs,Stab.Ix zs ys (Stab.fL s m e)/\SW w0 g zs w') :=fun s e wq hq h1 h2 h3=>by
  have h:=Bq w0 g d0 HR.out ys wq hq (by rw[HN.out,HS.out]) cap s m e h1 h2 (by rw[HN.out];exact h3) (by rw[HN.out];exact NM.out) (.func (.func 96) #[] #[]);rw[HN.out]at h;exact h
 have mM: (M:Int) +m<=2000000:=by omega
 obtain⟨LO,hLO⟩:=named (Stab.lo a m b M);obtain⟨HI,hHI⟩:=named (Stab.hi m M);rw[<- hLO.out,<- hHI.out]at LH;rw[<- hLO.out,<- hHI.out]at CUT MONO;have HB2:=And.intro h0 h1;clear R hW hs hN s1 s2 ham hmb hb hm h0 h1 IH hL;have LHo:Hid (a<=LO/\LO<=HI/\HI<=m/\HI<=M/\M+m- b<=LO) :=LH.out;have hIi: (HI:Int)<=1000000:=by have:=LHo.out;omega
 clear HB2;go_enter Tryz.func194,Tryz.ntmps194;go_upto_if 140 with fail
 (try simp only[Act.put,bw,bx,bz])
 go_cut [20,21]from 138 to 146 (fun s20 s21 wx=>s20= .int .i64 LO/\s21= .int .i64 HI/\wx=W)
 case first=>
  by_cases hc:M<m
  ·have hcm: (M:Int) <m:=by omega
   have eLO: (M:Int) +m- b= (LO:Int) :=by have h:=hLO.out;unfold Stab.lo at h;rw[if_pos hc]at h;have:=LHo.out;omega
   have eHI:HI=M:=by have h:=hHI.out;unfold Stab.hi at h;rw[if_pos hc]at h;exact h
   clear hc hLO hHI;go_wp2_with fail
   go_meet
   exact⟨by first|rfl| (congr 1;omega),by first|rfl| (congr 1;omega),rfl⟩
  ·have hcm:¬(M:Int) <m:=by omega
   have eLO:LO=a:=by have h:=hLO.out;unfold Stab.lo at h;rw[if_neg hc]at h;exact h
   have eHI:HI=m:=by have h:=hHI.out;unfold Stab.hi at h;rw[if_neg hc]at h;exact h
   clear hc hLO hHI;go_wp2_with fail
   go_meet
   exact⟨by first|rfl| (congr 1;omega),by first|rfl| (congr 1;omega),rfl⟩
 case rest=>
 obtain⟨rfl,rfl,hwc⟩:=hcut;have HWc:Hid (SW w0 g ys wc) :=hwc▸HW.out;clear hwc hLO hHI HW;obtain⟨Q,hQ⟩:=named (M+m- 1);have hQi: (M:Int) +m- 1= (Q:Int) :=by have:=hQ.out;have:=AM2.out;omega
 have Qi: (Q:Int)<=2000000:=by omega
 go_wp2_with fail;go_loopw [20,21] (fun v u wr=>∃(s r:Nat),v= .int .i64 s/\u= .int .i64 r/\LO<=s/\s<=r/\r<=HI/\ (∀c,LO<=c->c<s->¬Stab.B aT ys (M+m- 1) c)/\ (∀c,r<=c->c<HI->Stab.B aT ys (M+m- 1) c)/\SW w0 g ys wr) (fun v u _=> (intOf u).toNat- (intOf v).toNat)
 case atStart=>exact⟨LO,HI,rfl,rfl,aj,LHo.out.2.1,aj,fun c h h'=>by omega,fun c h h'=>by omega,HWc.out⟩
 case round=>
  obtain⟨s,r,rfl,rfl,hs,hsr,hr,hlo,hhi,hsw⟩:=hrel;have L1:=aa hlo;have L2:=aa hhi;have HSW:=aa hsw;have LS:=aa hs;have RH:=aa hr;have ss: (s:Int)<=1000000:=by omega
  have rr: (r:Int)<=1000000:=by omega
  clear hlo hhi hsw;by_cases hlt:s<r
  ·have hlti: (s:Int) <r:=by omega
   obtain⟨c,hc⟩:=named ((s+r) /2);have hci: ((s:Int) +r) /2= (c:Int) :=by have:=hc.out;omega
   have CC:Hid (s<=c/\c<r) :=by show _/\_;have:=hc.out;omega
   have cM:Hid (c<m/\c<M/\M+m<=b+c) :=by show _/\_;have:=CC.out;have:=LHo.out;have:=LS.out;have:=RH.out;omega
   obtain⟨P',hP⟩:=named (M+m- 1- c);have cQ: (c:Int)<=Q:=by have:=cM.out;have:=hQ.out;omega
   have hPi: (Q:Int) - c= (P':Int) :=by have:=hP.out;have:=cM.out;have:=hQ.out;omega
   have wP:IntKind.i64.wrap (P':Int) = (P':Int) :=gw (by omega) (by have:=cM.out;omega);have cN: (c:Int) <N:=by have:=cM.out;omega
   have pN: (P':Int) <N:=by have:=cM.out;have:=hP.out;have:=AM2.out;have:=HB.out;omega
   obtain⟨ci,cj,hall⟩:=SW.test HR.out HSW.out (by rw[HN.out,HS.out]) (i:=P') (j:=c) (by rw[HN.out];omega) (by rw[HN.out];omega);obtain⟨q1,q2,hcg,hcls⟩:=hall K hK.out;have CLS:=aa hcls;obtain⟨Z,hZ⟩:=named (aR (aT (Stab.g ys P')) (aT (Stab.g ys c)));rw[<- hZ.out]at hcg;have BZ:Hid (Stab.B aT ys (M+m- 1) c↔Z<0) :=by show _↔_;unfold Stab.B;rw[hZ.out,hP.out]
   clear hall hcls hs hsr hr hc hlt hP;by_cases hlv:Z<0
   ·have HLV:=aa hlv;go_wp2_with fail;go_quiet_grown (first| (go_at_call 96;refine Calls.grown_of (hcg _ _)));go_wp2
    (all_goals (try (exfalso;omega)))
    go_round
    case rel=>exact⟨s,c,rfl,rfl,LS.out,CC.out.1,by have:=CC.out;have:=RH.out;omega,L1.out,fun d h1 h2=>MONO.out c d (by have:=LS.out;have:=CC.out;omega) h1 h2 (BZ.out.mpr HLV.out),CLS.out _ _⟩
    case measure=>have:=CC.out;simp[intOf];omega
   ·have HLV:Hid (¬Z<0) :=hlv;have hzd:decide (Z<0) =false:=decide_eq_false hlv;go_wp2_with fail;go_quiet_grown (first| (go_at_call 96;refine Calls.grown_of (hcg _ _)));go_wp2
    (all_goals (try (exfalso;omega)))
    go_round
    case rel=>exact⟨c+1,r,by go_num,rfl,by have:=LS.out;have:=CC.out;omega,by have:=CC.out;omega,RH.out,fun d h1 h2 hb=>absurd (BZ.out.mp (MONO.out d c h1 (by omega) (by have:=CC.out;have:=RH.out;omega) hb)) (by have:=HLV.out;omega),L2.out,CLS.out _ _⟩
    case measure=>have:=CC.out;simp[intOf];omega
  ·obtain rfl:s=r:=by omega
   have nlt:¬(s:Int) <s:=by omega
   have cut:=CUT.out s LS.out RH.out (fun h=>L1.out (s- 1) (by omega) (by omega)) (fun h=>L2.out s aj h);have HC:=aa cut;obtain⟨E,hE⟩:=named (M+m- s);have hEi: (M:Int) +m- s= (E:Int) :=by have:=hE.out;have:=cut.le;omega
   have CE:Hid (a<=s/\s<=m/\m<=E/\E<=b/\s<=M/\M<=E) :=by
    show _/\_;have:=hE.out;have:=cut.as;have:=cut.sm;have:=cut.me;have:=cut.eb;have:=cut.le;omega
   have Ei: (E:Int)<=1000000:=by have:=CE.out;omega
   have MID:Hid (∀zs,Stab.Ix zs ys (Stab.fL s m E)->Stab.EV aT ys zs a m b M s) :=fun zs hx=>Stab.Dj (by rw[HN.out];exact HB.out) S1.out S2.out HC.out (by rw[<- hE.out];exact hx);have EE:Hid (M+m- s=E) :=hE.out.symm;clear cut hs hsr hr hlt CUT MONO hE;obtain⟨C1,hC1⟩:=named (decide (s<m/\m<E));have KC1:Hid (C1=true↔s<m/\m<E) :=by show _↔_;rw[hC1.out,decide_eq_true_iff]
   have NC1:Hid (¬(s<m/\m<E)->C1=false) :=fun h=>by rw[hC1.out];exact decide_eq_false h
   go_upto_region 39 with fail
   (try simp only[Act.put,bw,bx,bz])
   go_cut [185]from 178 to 184 (fun sc wx=>sc= .bool C1/\wx=wr)
   case first=>
    by_cases k1:s<m
    ·have k1i: (s:Int) <m:=by omega
     by_cases k2:m<E
     ·have k2i: (m:Int) <E:=by omega
      have e:=KC1.out.mpr ⟨k1,k2⟩;clear k1 k2;go_wp2_with fail
      go_meet
      exact⟨by rw[e],rfl⟩
     ·have k2i:¬(m:Int) <E:=by omega
      have e:=NC1.out (fun h=>k2 h.2);clear k1 k2;go_wp2_with fail
      go_meet
      exact⟨by rw[e],rfl⟩
    ·have k1i:¬(s:Int) <m:=by omega
     have e:=NC1.out (fun h=>k1 h.1);clear k1;go_wp2_with fail
     go_meet
     exact⟨by rw[e],rfl⟩
   case rest=>
   obtain⟨rfl,hwd⟩:=hcut;have HSd:Hid (SW w0 g ys wc) :=hwd▸HSW.out;clear hwd HSW hC1 NC1;go_upto_if 185 with fail
   (try simp only[Act.put,bw,bx,bz])
   go_cut [185]from 186 to 191 (fun sc wx=>∃zs,Stab.EV aT ys zs a m b M s/\zs.length=N/\SW w0 g zs wx)
   case first=>
    cases C1 with
    |true=>
     obtain⟨k1,k2⟩:=KC1.out.mp rfl;have RR:=aa (ROT.out s E _ HSd.out k1 k2 (by have:=CE.out;have:=HB.out;omega));clear ROT k1 k2;go_wp2_with fail;refine RR.out.mono ?_;rintro e w1 ⟨rfl,zs,hx,hz⟩;have HMID:=aa (MID.out zs hx);have HZ:=aa hz;have ZL:Hid (zs.length=N) :=by show _=_;rw[hx.1,HN.out]
     clear hx hz;go_wp2_with fail
     go_meet
     exact⟨zs,HMID.out,ZL.out,HZ.out⟩
    |false=>
     have r1:Hid (s=m\/E=m) :=by
      show _\/_;have:=CE.out;rcases(show(s<m/\m<E)\/s=m\/E=m by omega)with h|h
      ·have:=KC1.out.mpr h;cases this
      ·exact h
     have HMID:=aa (MID.out ys (Stab.Ix.refl ys (fun k=>by have:=Stab.bM s m E k;have:=r1.out;have:=CE.out;omega)));clear ROT;go_wp2_with fail
     go_meet
     exact⟨ys,HMID.out,HN.out,HSd.out⟩
   case rest=>
   obtain⟨zs,hmid,hzl,hzs⟩:=hcut;have HMID:=aa hmid;have ZL:=aa hzl;have HZ:=aa hzs;clear hmid hzl hzs ROT MID KC1;obtain⟨C2,hC2⟩:=named (decide (a<s/\s<M));have KC2:Hid (C2=true↔a<s/\s<M) :=by show _↔_;rw[hC2.out,decide_eq_true_iff]
   have NC2:Hid (¬(a<s/\s<M)->C2=false) :=fun h=>by rw[hC2.out];exact decide_eq_false h
   go_upto_region 41 with fail
   (try simp only[Act.put,bw,bx,bz])
   go_cut [199]from 192 to 198 (fun sc wx=>sc= .bool C2/\wx=wc)
   case first=>
    by_cases k1:a<s
    ·have k1i: (a:Int) <s:=by omega
     by_cases k2:s<M
     ·have k2i: (s:Int) <M:=by omega
      have e:=KC2.out.mpr ⟨k1,k2⟩;clear k1 k2;go_wp2_with fail
      go_meet
      exact⟨by rw[e],rfl⟩
     ·have k2i:¬(s:Int) <M:=by omega
      have e:=NC2.out (fun h=>k2 h.2);clear k1 k2;go_wp2_with fail
      go_meet
      exact⟨by rw[e],rfl⟩
    ·have k1i:¬(a:Int) <s:=by omega
     have e:=NC2.out (fun h=>k1 h.1);clear k1;go_wp2_with fail
     go_meet
     exact⟨by rw[e],rfl⟩
   case rest=>
   obtain⟨rfl,hwd⟩:=hcut;have HSd:Hid (SW w0 g zs wc) :=hwd▸HZ.out;clear hwd HZ hC2 NC2;go_upto_if 199 with fail
   (try simp only[Act.put,bw,bx,bz])
   go_cut [199]from 200 to 205 (fun sc wx=>∃xs,Stab.kO aT zs xs a M/\xs.length=N/\SW w0 g xs wx)
   case first=>
    cases C2 with
    |true=>
     obtain⟨k1,k2⟩:=KC2.out.mp rfl;have I1:=aa (HIH.out zs _ a s M ZL.out HSd.out k1 k2 (by have:=AM2.out;have:=HB.out;omega) (by have:=AM2.out;have:=HLL.out;omega) HMID.out.s1 HMID.out.s2);clear k1 k2;go_wp2_with fail;refine I1.out.mono ?_;rintro e w2 ⟨rfl,xs,hx1,hz1⟩;have HX1:=aa hx1;have HZ1:=aa hz1;have XL:Hid (xs.length=N) :=by show _=_;rw[hx1.win.len,ZL.out]
     clear hx1 hz1;go_wp2_with fail
     go_meet
     exact⟨xs,HX1.out,XL.out,HZ1.out⟩
    |false=>
     have ID1:Hid (Stab.kO aT zs zs a M) :=by
      rcases(show(a<s/\s<M)\/s=a\/s=M by have:=CE.out;omega)with h|h|h
      ·have:=KC2.out.mpr h;cases this
      ·have:=HMID.out.s2;rw[h]at this;exact Stab.kO.id this
      ·have:=HMID.out.s1;rw[h]at this;exact Stab.kO.id this
     go_wp2_with fail
     go_meet
     exact⟨zs,ID1.out,ZL.out,HSd.out⟩
   case rest=>
   obtain⟨xs,hx1,hxl,hxs⟩:=hcut;have HX1:=aa hx1;have XL:=aa hxl;have HX:=aa hxs;have DONE:Hid (∀us,Stab.kO aT xs us M b->Stab.kO aT ys us a b) :=fun us hu=>Stab.AP HMID.out (by have:=AM2.out;omega) (by have:=AM2.out;omega) HX1.out hu
   have S3:Hid (Stab.bp aT xs M E/\Stab.bp aT xs E b) :=by
    have h1:=HMID.out.s3.out HX1.out.win (.inr aj);have h2:=HMID.out.s4.out HX1.out.win (.inr (by have:=CE.out;rw[EE.out];omega));rw[EE.out]at h1 h2;exact⟨h1,h2⟩
   clear hx1 hxl hxs KC2;obtain⟨C3,hC3⟩:=named (decide (M<E/\E<b));have KC3:Hid (C3=true↔M<E/\E<b) :=by show _↔_;rw[hC3.out,decide_eq_true_iff]
   have NC3:Hid (¬(M<E/\E<b)->C3=false) :=fun h=>by rw[hC3.out];exact decide_eq_false h
   go_upto_region 43 with fail
   (try simp only[Act.put,bw,bx,bz])
   go_cut [213]from 206 to 212 (fun sc wx=>sc= .bool C3/\wx=wc)
   case first=>
    by_cases k1:M<E
    ·have k1i: (M:Int) <E:=by omega
     by_cases k2:E<b
     ·have k2i: (E:Int) <b:=by omega
      have e:=KC3.out.mpr ⟨k1,k2⟩;clear k1 k2;go_wp2_with fail
      go_meet
      exact⟨by rw[e],rfl⟩
     ·have k2i:¬(E:Int) <b:=by omega
      have e:=NC3.out (fun h=>k2 h.2);clear k1 k2;go_wp2_with fail
      go_meet
      exact⟨by rw[e],rfl⟩
    ·have k1i:¬(M:Int) <E:=by omega
     have e:=NC3.out (fun h=>k1 h.1);clear k1;go_wp2_with fail
     go_meet
     exact⟨by rw[e],rfl⟩
   case rest=>
   obtain⟨rfl,hwd⟩:=hcut;have HSd:Hid (SW w0 g xs wc) :=hwd▸HX.out;clear hwd HX hC3 NC3
   cases C3 with
   |true=>
    obtain⟨k1,k2⟩:=KC3.out.mp rfl;have I2:=aa (HIH.out xs _ M E b XL.out HSd.out k1 k2 HB.out (by have:=AM2.out;have:=HLL.out;omega) S3.out.1 S3.out.2);clear k1 k2;go_wp2_with fail;refine I2.out.mono ?_;rintro e w3 ⟨rfl,us,hu,hz2⟩;have F:=aa (DONE.out us hu);have HZ2:=aa hz2;clear hu hz2 DONE;go_wp2_with fail
    go_end0
    exact⟨rfl,us,F.out,HZ2.out⟩
   |false=>
    have ID2:Hid (Stab.kO aT xs xs M b) :=by
     rcases(show(M<E/\E<b)\/E=M\/E=b by have:=CE.out;omega)with h|h|h
     ·have:=KC3.out.mpr h;cases this
     ·have:=S3.out.2;rw[h]at this;exact Stab.kO.id this
     ·have:=S3.out.1;rw[h]at this;exact Stab.kO.id this
    have F:=aa (DONE.out _ ID2.out);clear DONE;go_wp2_with fail
    go_end0
    exact⟨rfl,xs,F.out,HSd.out⟩
theorem uK (w0:World)(g:Nat)(d0:Array aP)(R:RowK eY 6 w0 g 0 d0)(N:Nat)(hs:N=d0.size)(cap:Nat)(hm:N<=1000000) :∀L,Ce w0 g N cap L
 |0=>fun ys W a m b hN hW h1 h2 h3 h4 _ _=>by omega
 |L+1=>fun ys W a m b hN hW h1 h2 h3 h4 s1 s2=>by
  by_cases c1:m=a+1
  ·exact zg w0 g d0 R ys W hW N hN hs cap a m b h1 h2 h3 hm s1 s2 c1
  ·by_cases c2:b=m+1
   ·exact vW w0 g d0 R ys W hW N hN hs cap a m b h1 h2 h3 hm s1 s2 c1 c2
   ·exact BH w0 g d0 R ys W hW N hN hs cap a m b h1 h2 h3 hm s1 s2 c1 c2 L h4 (uK w0 g d0 R N hs cap hm L)
def PB (zs:List aP)(bs A:Nat) :Prop:=∀i j,i<j->j<A->i/bs=j/bs->aR (aT (Stab.g zs i)) (aT (Stab.g zs j))<=0
def PA (zs:List aP)(bs A N:Nat) :Prop:=∀i j,A<=i->i<j->j<N->i/bs=j/bs->aR (aT (Stab.g zs i)) (aT (Stab.g zs j))<=0
theorem xl {A bs q i:Nat}(hA:A=q*bs)(h1:A<=i)(h2:i<A+bs) :i/bs=q:=Nat.div_eq_of_lt_le (by rw[<- hA];exact h1) (by rw[Nat.succ_mul,<- hA];exact h2)
theorem CM {A bs q i:Nat}(hb:0<bs)(hA:A=q*bs)(h:i<A) :i/bs<q:= (Nat.div_lt_iff_lt_mul hb).mpr (by rw[<- hA];exact h)
theorem CJ {A bs q i:Nat}(hb:0<bs)(hA:A=q*bs)(h:A<=i) :q<=i/bs:= (Nat.le_div_iff_mul_le hb).mpr (by rw[<- hA];exact h)
theorem PB.add {zs us:List aP}{bs q A B:Nat}(h:PB zs bs A)(hb:0<bs)(hA:A=q*bs)(hu:Stab.jX zs us A B)(hs:Stab.bp aT us A B) :PB us bs B:=fun i j hij hj e=>by
 by_cases hi:A<=i
 ·exact hs i j hi hij hj
 ·by_cases hj2:j<A
  ·have:=h i j hij hj2 e
   rwa [<- hu.out i (.inl (by omega)),<- hu.out j (.inl hj2)]at this
  ·have:=CM hb hA (show i<A by omega);have:=CJ hb hA (show A<=j by omega);omega
theorem PA.cut {zs us:List aP}{bs A B N:Nat}(h:PA zs bs A N)(hu:Stab.jX zs us A B)(hB:A<=B) :PA us bs B N:=fun i j hi hij hj e=>by
 have:=h i j (by omega) hij hj e
 rwa [<- hu.out i (.inr hi),<- hu.out j (.inr (by omega))]at this
theorem PA.wL {zs:List aP}{bs q A N:Nat}(h:PA zs bs A N){c d:Nat}(hc:c=q*bs)(h1:A<=c)(h2:d<=c+bs)(h3:d<=N) :Stab.bp aT zs c d:=fun i j hi hij hj=>
 h i j (by omega) hij (by omega) ((xl hc hi (by omega)).trans (xl hc (by omega) (by omega)).symm)
theorem PB.all {zs:List aP}{bs N:Nat}(h:PB zs bs N)(hN:N<=bs) :Stab.bp aT zs 0 N:=fun i j _ hij hj=>h i j hij hj (by rw[Nat.div_eq_of_lt (by omega),Nat.div_eq_of_lt (by omega)])
theorem ti (w0:World)(g:Nat)(d0:Array aP)(R:RowK eY 6 w0 g 0 d0)(ys:List aP)(W:World)(hW:SW w0 g ys W)(N:Nat)(hN:ys.length=N)(hs:N=d0.size)(cap:Nat)(h40:N<=1000) :
 Calls Tryz.prog 144 #[.slice (some ⟨g,0,none⟩) N cap,.int .i64 N,.func (.func 96) #[] #[]] W fun e w'=>e= .returned (.tuple #[])/\∃zs,Stab.kO aT ys zs 0 N/\SW w0 g zs w':=by
 have HW:=aa hW;have HN:=aa hN;have NB:=aa h40
 have INS:Hid (∀(zs:List aP) (wq:World) (a b:Nat),zs.length=N->SW w0 g zs wq->a<=b->b<=N->Calls Tryz.prog 193 #[.slice (some ⟨g,0,none⟩) N cap,.int .i64 a,.int .i64 b,.func (.func 96) #[] #[]] wq fun e w'=>e= .returned (.tuple #[])/\∃us,Stab.kO aT zs us a b/\SW w0 g us w') :=fun zs wq a b hl hz h1 h2=>by
  have h:=Ax w0 g d0 R zs wq hz (by rw[hl,hs]) cap a b h1 (by rw[hl];exact h2) (by rw[hl];omega);rw[hl]at h;exact h
 have SYM:=aa (uK w0 g d0 R N hs cap (by omega) 1000);have nb: (N:Int)<=1000:=by omega
 clear R hW hs hN h40;go_enter Tryz.func144,Tryz.ntmps144;go_wp2_with fail;go_loopw [7,8] (fun v u wr=>∃(q A B:Nat) (zs:List aP),v= .int .i64 A/\u= .int .i64 B/\Hid (B=A+20)/\Hid (A=q*20)/\A<=N/\Hid (Stab.jX ys zs 0 N)/\Hid (Stab.lQ aT ys zs)/\Hid (PB zs 20 A)/\Hid (SW w0 g zs wr)) (fun v _ _=>N+20- (intOf v).toNat)
 case atStart=>exact⟨0,0,20,ys,rfl,rfl,rfl,rfl,Nat.zero_le _,Stab.jX.refl _ _ _,Stab.lQ.refl _,fun i j _ h=>absurd h (Nat.not_lt_zero j),HW⟩
 case round=>
  obtain⟨q,A,B,zs,rfl,rfl,ABE,AQ,hAN,WIN,STB,PB1,HZ⟩:=hrel;have ZL:Hid (zs.length=N) :=by show _=_;rw[WIN.out.len,HN.out]
  have Ai: (A:Int)<=1000:=by have:=NB.out;omega
  have Bi: (B:Int)<=1020:=by have:=ABE.out;have:=NB.out;omega
  by_cases hB:B<=N
  ·have hBi: (B:Int)<=N:=by omega
   have I:=aa (INS.out zs _ A B ZL.out HZ.out (by have:=ABE.out;omega) hB);have BN:=aa hB;clear hB hAN;go_wp2_with fail;refine I.out.mono ?_;rintro e w1 ⟨rfl,us,hu,hz⟩;have HZ1:=aa hz;have W1:Hid (Stab.jX ys us 0 N) :=WIN.out.trans (hu.win.wide (Nat.zero_le _) BN.out);have T1:Hid (Stab.lQ aT ys us) :=STB.out.trans hu.yV;have P1:Hid (PB us 20 B) :=PB1.out.add (by omega) AQ.out hu.win hu.eD;clear hu hz;go_wp2_with fail
   go_round
   case rel=>exact⟨q+1,B,B+20,us,rfl,by go_num,rfl,(by show _=_;rw[ABE.out,AQ.out];omega),BN.out,W1,T1,P1,HZ1⟩
   case measure=>have:=ABE.out;have:=BN.out;simp[intOf];omega
  ·have hBi:¬(B:Int)<=N:=by omega
   have I:=aa (INS.out zs _ A N ZL.out HZ.out hAN aj);clear hAN hB;go_wp2_with fail;refine I.out.mono ?_;rintro e w1 ⟨rfl,us,hu,hz⟩;have HZ1:=aa hz;have W1:Hid (Stab.jX ys us 0 N) :=WIN.out.trans (hu.win.wide (Nat.zero_le _) aj);have T1:Hid (Stab.lQ aT ys us) :=STB.out.trans hu.yV;have P1:Hid (PB us 20 N) :=PB1.out.add (by omega) AQ.out hu.win hu.eD;clear hu hz I WIN STB PB1 HZ INS;go_wp2_with fail;go_loopw [6] (fun v wr=>∃(bs:Nat) (zs:List aP),v= .int .i64 bs/\Hid (0<bs/\bs<=2000)/\Hid (Stab.jX ys zs 0 N)/\Hid (Stab.lQ aT ys zs)/\Hid (PB zs bs N)/\Hid (SW w0 g zs wr)) (fun v _=>N- (intOf v).toNat)
   case atStart=>exact⟨20,us,rfl,⟨by omega,by omega⟩,W1,T1,P1,HZ1⟩
   case round=>
    obtain⟨bs,zs,rfl,SB,WIN,STB,PBN,HZ⟩:=hrel;have sb1: (bs:Int)<=2000:=by have:=SB.out;omega
    by_cases hbN:bs<N
    ·have b1: (bs:Int) <N:=by omega
     have BN:=aa hbN;have PAN:Hid (PA zs bs 0 N) :=fun i j _ hij hj e=>PBN.out i j hij hj e;have D0:Hid (PB zs (bs*2) 0) :=fun i j _ h=>absurd h (Nat.not_lt_zero j);obtain⟨D,hD⟩:=named (bs*2);have dI:2* (bs:Int) = (D:Int) :=by have:=hD.out;omega
     have dI': (bs:Int) *2= (D:Int) :=by omega
     have db: (D:Int)<=2000:=by have:=NB.out;have:=hD.out;omega
     rw[<- hD.out]at D0;clear hbN;go_wp2_with fail;go_loopw [7,8] (fun v u wq=>∃(q A B:Nat) (fs:List aP),v= .int .i64 A/\u= .int .i64 B/\Hid (B=A+D)/\Hid (A=q*D)/\A<=N/\Hid (Stab.jX ys fs 0 N)/\Hid (Stab.lQ aT ys fs)/\Hid (PB fs D A)/\Hid (PA fs bs A N)/\Hid (SW w0 g fs wq)) (fun v _ _=>N+D- (intOf v).toNat)
     case atStart=>exact⟨0,0,D,zs,rfl,rfl,(by show _=_;omega),(by show _=_;omega),Nat.zero_le _,WIN,STB,D0,PAN,HZ⟩
     case round=>
      obtain⟨q,A,B,fs,rfl,rfl,ABE,AQ,hAN,WIN2,STB2,PB2,PA2,HZ2⟩:=hrel;have FL:Hid (fs.length=N) :=by show _=_;rw[WIN2.out.len,HN.out]
      have Ai: (A:Int)<=1000:=by have:=NB.out;omega
      have Bi: (B:Int)<=3000:=by have:=ABE.out;omega
      have AQ2:Hid (A=q*2*bs) :=by show _=_;rw[AQ.out,hD.out,Nat.mul_assoc,Nat.mul_comm 2 bs]
      obtain⟨M,hM⟩:=named (A+bs);have mI: (A:Int) +bs= (M:Int) :=by have:=hM.out;omega
      have MQ:Hid (M= (q*2+1) *bs) :=by show _=_;rw[hM.out,AQ2.out,Nat.succ_mul]
      have DP:Hid (0<D) :=by show _<_;have:=hD.out;have:=SB.out;omega
      by_cases hB:B<=N
      ·have hBi: (B:Int)<=N:=by omega
       have BN2:=aa hB;have s1:=PA2.out.wL (d:=M) AQ2.out aj (by have:=hM.out;omega) (by have:=hM.out;have:=ABE.out;have:=hD.out;omega);have s2:=PA2.out.wL (d:=B) MQ.out (by have:=hM.out;omega) (by have:=hM.out;have:=ABE.out;have:=hD.out;omega) hB;have S:=aa (SYM.out fs _ A M B FL.out HZ2.out (by have:=hM.out;have:=SB.out;omega) (by have:=hM.out;have:=ABE.out;have:=hD.out;have:=SB.out;omega) hB (by have:=NB.out;omega) s1 s2);clear hB hAN s1 s2;go_wp2_with fail;refine S.out.mono ?_;rintro e w2 ⟨rfl,vs,hu,hz⟩;have HZ3:=aa hz;have W3:Hid (Stab.jX ys vs 0 N) :=WIN2.out.trans (hu.win.wide (Nat.zero_le _) BN2.out);have T3:Hid (Stab.lQ aT ys vs) :=STB2.out.trans hu.yV;have P3:Hid (PB vs D B) :=PB2.out.add DP.out AQ.out hu.win hu.eD;have Q3:Hid (PA vs bs B N) :=PA2.out.cut hu.win (by have:=ABE.out;omega);clear hu hz;go_wp2_with fail
       go_round
       case rel=>exact⟨q+1,B,B+D,vs,rfl,by go_num,rfl,(by show _=_;rw[ABE.out,AQ.out,Nat.succ_mul]),BN2.out,W3,T3,P3,Q3,HZ3⟩
       case measure=>have:=ABE.out;have:=BN2.out;have:=DP.out;simp[intOf];omega
      ·have hBi:¬(B:Int)<=N:=by omega
       have BN2:Hid (N<A+D) :=by show _<_;have:=ABE.out;omega
       by_cases hm:M<N
       ·have hmi: (M:Int) <N:=by omega
        have s1:=PA2.out.wL (d:=M) AQ2.out aj (by have:=hM.out;omega) (by omega);have s2:=PA2.out.wL (d:=N) MQ.out (by have:=hM.out;omega) (by have:=hM.out;have:=BN2.out;have:=hD.out;omega) aj;have S:=aa (SYM.out fs _ A M N FL.out HZ2.out (by have:=hM.out;have:=SB.out;omega) hm aj (by have:=NB.out;omega) s1 s2);clear hB hAN s1 s2 hm;go_wp2_with fail;refine S.out.mono ?_;rintro e w2 ⟨rfl,vs,hu,hz⟩;have HZ3:=aa hz;have W3:Hid (Stab.jX ys vs 0 N) :=WIN2.out.trans (hu.win.wide (Nat.zero_le _) aj);have T3:Hid (Stab.lQ aT ys vs) :=STB2.out.trans hu.yV;have P3:Hid (PB vs D N) :=PB2.out.add DP.out AQ.out hu.win hu.eD;clear hu hz;go_wp2_with fail
        go_round
        case rel=>exact⟨D,vs,rfl,⟨DP.out,by omega⟩,W3,T3,P3,HZ3⟩
        case measure=>have:=BN.out;have:=hD.out;have:=SB.out;simp[intOf];omega
       ·have hmi:¬(M:Int) <N:=by omega
        have P3:Hid (PB fs D N) :=PB2.out.add DP.out AQ.out (Stab.jX.refl _ _ _) (PA2.out.wL (d:=N) AQ2.out aj (by have:=hM.out;omega) aj);clear hB hAN hm;go_wp2_with fail
        go_round
        case rel=>exact⟨D,fs,rfl,⟨DP.out,by omega⟩,WIN2,STB2,P3,HZ2⟩
        case measure=>have:=BN.out;have:=hD.out;have:=SB.out;simp[intOf];omega
    ·have b1:¬(bs:Int) <N:=by omega
     have SR:=aa (PBN.out.all (by omega));clear hbN;go_wp2_with fail
     go_end0
     exact⟨rfl,zs,⟨WIN.out,STB.out,SR.out⟩,HZ.out⟩
theorem th {ys zs:List aP}(h:Stab.kO aT ys zs 0 ys.length) :ax zs=eD (ax ys) :=by
 refine Dx ?_ fun q=>?_
 ·show List.Pairwise _ _;rw[List.pairwise_iff_getElem];intro i j hi hj hij;have hl:zs.length=ys.length:=h.win.len;rw[aV]at hi hj;have:=h.eD i j (Nat.zero_le _) hij (by omega);rw[Stab.qY (by omega),Stab.qY (by omega)]at this;have e:∀(k:Nat) (h:k< (ax zs).length),(ax zs)[k] = (zs[k]'(by rw[aV]at h;exact h)).n:=fun k h=>List.getElem_map ..;rw[e i,e j];exact this
 ·have:=h.yV (ad q);unfold at_ ax;rw[List.filter_map,List.filter_map]
  have e:∀l:List aP,l.filter ((fun x:Nd=>decide (x.p=q))∘aP.n) =l.filter (fun x=>decide (aT x=ad q)) :=fun l=>by
   congr 1
   funext x
   show decide (x.n.p=q) =decide (ad x.n.p=ad q);by_cases c:x.n.p=q
   ·rw[decide_eq_true c,decide_eq_true (by rw[c])]
   ·rw[decide_eq_false c,decide_eq_false (fun e=>c (by rw[<- aJ x.n.p,e,aJ]))]
  rw[e,e,this]
theorem yP (g n cap:Nat)(ys:List aP)(w:World)(hy:bY w g 0 ys)(hf:∀j,w.frozen? ⟨g,j,none⟩=false)(hg:g<w.heap.size)(hn:ys.length=n)(h40:n<=1000) :
 Calls Tryz.prog 95 #[.slice (some ⟨g,0,none⟩) n cap,.func (.func 96) #[] #[]] w fun e w'=>e= .returned (.tuple #[])/\∃zs,ax zs=eD (ax ys)/\ (∀z∈zs,z∈ys)/\zs.length=n/\bY w' g 0 zs/\ (∀j,w'.frozen? ⟨g,j,none⟩=false)/\aZ (fun k=>k=g) w w':=by
 have R:=Du hy hf hg;have S:=ti w g ys.toArray R ys w (SWK.start R.hH) n hn (by simpa using hn.symm) cap h40;have HS:=aa S;have HR:=aa R;have HN:=aa hn;have HF:=aa hf;have HG:=aa hg;clear S hy hf hg R;go_enter Tryz.func95,Tryz.ntmps95;go_wp2_with fail;refine HS.out.mono ?_;rintro e w1 ⟨rfl,zs,hm,hz⟩;have HM:=aa hm;have HZ:=aa hz;clear hm hz;go_wp2_with fail
 go_end0
 have hl:zs.length=ys.length:=HM.out.win.len;refine⟨rfl,zs,th (by rw[HN.out];exact HM.out),fun z h=>HM.out.yV.mem h,by rw[hl,HN.out],SW.ax HR.out HZ.out (by simpa using hl),fun j=>?_,HZ.out.only⟩;obtain⟨m,os,rfl⟩:=HZ.out;unfold sortWorldK;rw[frozen?_grow _ _ _ (by show g< (putRowK _ _ _ _ _ _).heap.size;rw[size_putRowK];exact HG.out)];unfold putRowK;rw[frozen?_putRow];exact HF.out j
end Tre
end Go.Proofs.YtcjagakckffkiaaGreatDoor
