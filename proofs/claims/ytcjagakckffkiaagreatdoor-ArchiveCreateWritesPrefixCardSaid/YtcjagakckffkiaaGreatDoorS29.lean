import Derived.Test.YtcjagakckffkiaaGreatDoorS27
import Derived.Test.YtcjagakckffkiaaGreatDoorS28
import Derived.Shelf.SlSortCmp.KitK
set_option maxHeartbeats 16000000
set_option maxRecDepth 100000
namespace Go.Proofs.YtcjagakckffkiaaGreatDoor
namespace Tre
open Go.RowKit Go.Proofs.YtcjagakckffkiaaGreatDoor.Fit Pnm Go.Sort
theorem ou (ys:List aP)(i:Nat) :ys.toArray[i]! =Stab.g ys i:=by
 unfold Stab.g;rw[List.getElem!_toArray,List.getElem!_eq_getElem?_getD]
theorem zN (ys:List aP)(i j:Nat) :Go.Sort.swp ys.toArray i j= (Stab.zG ys i j).toArray:=by
 unfold Go.Sort.swp Stab.zG;rw[ou,ou];simp
def aT (y:aP) :List Int:=ad y.n.p
def SW (w0:World)(g:Nat)(ys:List aP)(W:World) :Prop:=SWK eY 6 w0 g 0 ys.toArray W
theorem SW.only {w0 W:World}{g:Nat}{ys:List aP}(h:SW w0 g ys W) :aZ (fun k=>k=g) w0 W:=by
 obtain⟨n,os,rfl⟩:=h;refine⟨rfl,rfl,rfl,?_,fun k hk hne=>?_⟩
 ·unfold sortWorldK;rw[size_grow,size_putRowK];show w0.heap.size<=w0.heap.size+_;omega
 ·unfold sortWorldK putRowK putRow mapBlock grow;show((w0.heap.modify g _) ++os)[k]? =_;rw[Array.getElem?_append_left (by simpa using hk),Array.getElem?_modify,if_neg (fun e=>hne e.symm)]
theorem SW.ax {w0 W:World}{g:Nat}{d0:Array aP}{ys:List aP}(R:RowK eY 6 w0 g 0 d0)(h:SW w0 g ys W)(hs:ys.length=d0.size) :bY W g 0 ys:=fun i y hi j v hv=>by
 have hH:=SWK.holds h R.hblk R.hH (by simpa using hs);have hl:i<ys.length:= (List.getElem?_eq_some_iff.mp hi).1;have hj:j<6:=by have:= (List.getElem?_eq_some_iff.mp hv).1;simpa using this
 have hc:= (hH.cell (i:=i) (c:=j) (by simpa using hl) hj).1
 have e:ys.toArray[i]! =y:=by
  rw[ou];unfold Stab.g;rw[hi];rfl
 rw[e]at hc;rw[hc];rw[<- hv,List.getElem!_eq_getElem?_getD,hv];rfl
theorem Du {w:World}{g:Nat}{ys:List aP}(h:bY w g 0 ys)(hf:∀j,w.frozen? ⟨g,j,none⟩=false)(hg:g<w.heap.size) :RowK eY 6 w g 0 ys.toArray:=by
 refine⟨fun _=>rfl,fun x v hv=>dK _ _ _ _ _ _ _ _ v hv,fun t ht=>⟨?_,?_⟩,hg⟩
 ·rw[size_flatK]at ht;rw[get_flatK _ _ _ _ ht]
  have hi:t/6<ys.length:=by have:t<ys.length*6:=by simpa using ht
                            omega
  have hr:t % 6< (eY (Stab.g ys (t/6))).length:=by simp;omega
  have:=h (t/6) _ (Stab.pE hi) (t % 6) _ (List.getElem?_eq_getElem hr);rw[show 0+t/6*6+t % 6=0+t by omega]at this;rw[this,ou,id,List.getElem!_eq_getElem?_getD,List.getElem?_eq_getElem hr];rfl
 ·rw[Nat.zero_add];exact hf t
theorem zS (k:Int)(p:ByteArray)(m:Int)(t:ByteArray)(a:Option Addr)(n cap:Nat)(c:Int)(k':Int)(p':ByteArray)(m':Int)(t':ByteArray)(a':Option Addr)(n' cap':Nat)(c':Int)(w:World) :
 Calls Tryz.prog 96 #[.agg (cg k p m t a n cap c).toArray,.agg (cg k' p' m' t' a' n' cap' c').toArray] w fun e w'=>e= .returned (.int .i64 (aR (ad p) (ad p')))/\∃q os,w'=grow (w.drewN q) os:=by
 obtain⟨Z,hZ⟩:=named (aR (ad p) (ad p'))
 have C:Hid (∀w',Calls Tryz.prog 97 #[.string p,.string p'] w' fun e w''=>e= .returned (.int .i64 Z)/\w'=w'') :=fun w'=>by
  have e:=aa (show Lib.compareBytes p.data.toList p'.data.toList=Z by rw[hZ.out,tO,cn,cn]);rw[<- e.out];go_enter Tryz.func97,Tryz.ntmps97;go_wp2_with fail;refine(Tryz.strings_Compare p p' w').mono ?_;rintro e w1 ⟨rfl,rfl⟩;go_wp2_with fail;go_ret;exact⟨rfl,rfl⟩
 rw[<- hZ.out];clear hZ;go_enter Tryz.func96,Tryz.ntmps96;go_wp2_with fail;refine(C.out _).mono ?_;rintro e w1 ⟨rfl,rfl⟩;go_wp2_with fail;go_ret;refine⟨rfl,0,#[.cells (cg k p m t a n cap c).toArray 77 (0,0),.cells (cg k' p' m' t' a' n' cap' c').toArray 77 (0,0)],?_⟩;simp[alloc_eq_grow,grow_grow];rfl
theorem wT (g:Nat)(size:Nat)(w:World) :CmpLays Tryz.prog 96 #[] eY 6 (fun x y=>aR (aT x) (aT y)) g 0 size w:=fun m os dk _ x y=>by
 exact zS _ _ _ _ _ _ _ _ _ _ _ _ _ _ _ _ _
theorem SW.cells {w0 W:World}{g:Nat}{d0:Array aP}{ys:List aP}(R:RowK eY 6 w0 g 0 d0)(h:SW w0 g ys W)(hs:ys.length=d0.size)(P:Program){i j:Nat}(hi:i<ys.length)(hj:j<ys.length) :
 ∃ci cj:List Value,∀K,K=6->ci.length=K/\cj.length=K/\Sem.run P (loadCellsFrom ⟨g,i*K,none⟩ 0 K #[]) W.drew= .ok ci.toArray W.drew/\Sem.run P (loadCellsFrom ⟨g,j*K,none⟩ 0 K #[]) W.drew= .ok cj.toArray W.drew/\
  Sem.run P (storeCells ⟨g,i*K,none⟩ cj 0) W.drew= .ok () (W.drew.setCells g (i*K) cj)/\Sem.run P (storeCells ⟨g,j*K,none⟩ ci 0) (W.drew.setCells g (i*K) cj) = .ok () ((W.drew.setCells g (i*K) cj).setCells g (j*K) ci)/\
  SW w0 g (Stab.zG ys i j) ((W.drew.setCells g (i*K) cj).setCells g (j*K) ci) :=by
 have hs':ys.toArray.size=d0.size:=by simpa using hs
 have hi':i<ys.toArray.size:=by simpa using hi
 have hj':j<ys.toArray.size:=by simpa using hj
 have h1:=SWK.ld1 h R hs' P i hi';have h2:=SWK.ld1 h R hs' P j hj';have h3:=SWK.st1 h R hs' P i hi' ys.toArray[j]!;have h4:=SWK.st2 h R hs' P i j hi' hj' ys.toArray[j]! ys.toArray[i]!;have h5:=SWK.swapped h R i j hi' hj';rw[Nat.zero_add]at h1 h2 h3;rw[Nat.zero_add,Nat.zero_add]at h4 h5;refine⟨eY ys.toArray[i]!,eY ys.toArray[j]!,fun K hK=>?_⟩;subst hK;refine⟨rfl,rfl,h1,h2,h3,h4,?_⟩;unfold SW;rw[<- zN];exact h5
theorem BG (w0:World)(g:Nat)(d0:Array aP)(R:RowK eY 6 w0 g 0 d0)(ys:List aP)(W:World)(hW:SW w0 g ys W)(hs:ys.length=d0.size)(cap a b n:Nat)(hab:a+n<=b)(hb:b+n<=ys.length)(hm:ys.length<=1000000)(f:Value) :
 Calls Tryz.prog 240 #[.slice (some ⟨g,0,none⟩) ys.length cap,.int .i64 a,.int .i64 b,.int .i64 n,f] W fun e w'=>e= .returned (.tuple #[])/\∃zs,Stab.Ix zs ys (Stab.oY a b n)/\SW w0 g zs w':=by
 have HR:=aa R;have HW:=aa hW;have HS:=aa hs
 have aE:∀w,(isAgg 77).run Tryz.prog w= .ok true w:=fun w=>by
  unfold isAgg;rw[Sem.run_bind,run_underlying Tryz.underlying77 w];simp
 obtain⟨K,hK⟩:=named 6;have zE:∀w,(Go.sizeOf 77).run Tryz.prog w= .ok K w:=fun w=>by rw[hK.out];rfl
 have mixed:Tryz.prog.follows .mixedOrders=true:=by kernel_rfl
 obtain⟨N,hN⟩:=named ys.length;have HB:Hid (b+n<=N) :=by show _<=_;rw[hN.out];exact hb
 have HAB:=aa hab;have NM:Hid (N<=1000000) :=by show _<=_;rw[hN.out];exact hm
 rw[<- hN.out];have nm: (n:Int)<=1000000:=by omega
 clear R hW hs hab hb hm;go_enter Tryz.func240,Tryz.ntmps240;go_wp2_with fail;go_loopw [10] (fun v wr=>∃(i:Nat) (zs:List aP),v= .int .i64 i/\i<=n/\Stab.Ix zs ys (Stab.oY a b i)/\SW w0 g zs wr) (fun v _=>n- (intOf v).toNat)
 case atStart=>exact⟨0,ys,rfl,Nat.zero_le _,Stab.Ix.refl ys (Stab.zf a b),HW.out⟩
 case round=>
  obtain⟨i,zs,rfl,hi,hix,hsw⟩:=hrel;have HX:=aa hix;have HSW:=aa hsw;have ZL:Hid (zs.length=N) :=by show _=_;rw[hix.1,hN.out]
  clear hix hsw;by_cases hin:i<n
  ·have i1: (i:Int) <n:=by omega
   have w1:IntKind.i64.wrap ((b:Int) +i) = ((b+i:Nat) :Int) :=by rw[gw (by omega) (by have:=HB.out;have:=NM.out;omega)];omega
   have w2:IntKind.i64.wrap ((a:Int) +i) = ((a+i:Nat) :Int) :=by rw[gw (by omega) (by have:=HB.out;have:=HAB.out;have:=NM.out;omega)];omega
   obtain⟨A,hA⟩:=named (a+i);obtain⟨B,hB⟩:=named (b+i);rw[<- hB.out]at w1;rw[<- hA.out]at w2;have b1: (A:Int) <N:=by have:=HB.out;have:=HAB.out;have:=hA.out;omega
   have b2: (B:Int) <N:=by have:=HB.out;have:=hB.out;omega
   obtain⟨ci,cj,hall⟩:=SW.cells HR.out HSW.out (by rw[ZL.out,<- HS.out,hN.out]) Tryz.prog (i:=A) (j:=B) (by rw[ZL.out];omega) (by rw[ZL.out];omega);obtain⟨l1,l2,q1,q2,q3,q4,q5⟩:=hall K hK.out;have Q5:=aa q5;clear q5 hall;have STEP:Hid (Stab.Ix (Stab.zG zs A B) ys (Stab.oY a b (i+1))) :=HX.out.trans (Stab.qk (by rw[ZL.out];omega) (by rw[ZL.out];omega)) (fun k=>by rw[hA.out,hB.out];exact Stab.ze (by have:=HAB.out;omega) k);go_wp2_with fail;go_big_region_o
   all_goals go_wp2
   go_round
   case rel=>exact⟨i+1,_,by go_num,by omega,STEP.out,Q5.out⟩
   case measure=>simp[intOf];omega
  ·obtain rfl:i=n:=by omega
   go_wp2
   go_end0
   exact⟨rfl,zs,HX.out,HSW.out⟩
theorem SW.test {w0 W:World}{g:Nat}{d0:Array aP}{ys:List aP}(R:RowK eY 6 w0 g 0 d0)(h:SW w0 g ys W)(hs:ys.length=d0.size){i j:Nat}(hi:i<ys.length)(hj:j<ys.length) :
 ∃ci cj:List Value,∀K,K=6-> (∀n os,Sem.run Tryz.prog (loadCellsFrom ⟨g,i*K,none⟩ 0 K #[]) (grow (W.drewN n) os) = .ok ci.toArray (grow (W.drewN n) os))/\ (∀n os,Sem.run Tryz.prog (loadCellsFrom ⟨g,j*K,none⟩ 0 K #[]) (grow (W.drewN n) os) = .ok cj.toArray (grow (W.drewN n) os))/\
  (∀n os,Calls Tryz.prog 96 #[.agg ci.toArray,.agg cj.toArray] (grow (W.drewN n) os) fun e w'=>e= .returned (.int .i64 (aR (aT (Stab.g ys i)) (aT (Stab.g ys j))))/\∃q os',w'=grow ((grow (W.drewN n) os).drewN q) os')/\
  (∀n os,SW w0 g ys (grow (W.drewN n) os)) :=by
 have hs':ys.toArray.size=d0.size:=by simpa using hs
 have hi':i<ys.toArray.size:=by simpa using hi
 have hj':j<ys.toArray.size:=by simpa using hj
 refine⟨eY ys.toArray[i]!,eY ys.toArray[j]!,fun K hK=>?_⟩;subst hK;refine⟨fun n os=>?_,fun n os=>?_,fun n os=>?_,fun n os=>SWK.grown h n os⟩
 ·have:=SWK.ld h R hs' Tryz.prog i hi' n os;rw[Nat.zero_add]at this;exact this
 ·have:=SWK.ld h R hs' Tryz.prog j hj' n os;rw[Nat.zero_add]at this;exact this
 ·have:=SWK.cmp h (wT g d0.size w0) hs' ys.toArray[i]! ys.toArray[j]! n os;rw[<- ou,<- ou];exact this
theorem Ax (w0:World)(g:Nat)(d0:Array aP)(R:RowK eY 6 w0 g 0 d0)(ys:List aP)(W:World)(hW:SW w0 g ys W)(hs:ys.length=d0.size)(cap a b:Nat)(hab:a<=b)(hb:b<=ys.length)(hm:ys.length<=1000000) :
 Calls Tryz.prog 193 #[.slice (some ⟨g,0,none⟩) ys.length cap,.int .i64 a,.int .i64 b,.func (.func 96) #[] #[]] W fun e w'=>e= .returned (.tuple #[])/\∃zs,Stab.kO aT ys zs a b/\SW w0 g zs w':=by
 have HR:=aa R;have HW:=aa hW;have HS:=aa hs
 have aE:∀w,(isAgg 77).run Tryz.prog w= .ok true w:=fun w=>by
  unfold isAgg;rw[Sem.run_bind,run_underlying Tryz.underlying77 w];simp
 obtain⟨K,hK⟩:=named 6;have zE:∀w,(Go.sizeOf 77).run Tryz.prog w= .ok K w:=fun w=>by rw[hK.out];rfl
 have mixed:Tryz.prog.follows .mixedOrders=true:=by kernel_rfl
 obtain⟨N,hN⟩:=named ys.length;have HB:Hid (b<=N) :=by show _<=_;rw[hN.out];exact hb
 have HAB:=aa hab;have NM:Hid (N<=1000000) :=by show _<=_;rw[hN.out];exact hm
 rw[<- hN.out];have nm: (b:Int)<=1000000:=by omega
 have am: (a:Int)<=1000000:=by omega
 clear R hW hs hab hb hm;go_enter Tryz.func193,Tryz.ntmps193;go_wp2_with fail;go_loopw [8] (fun v wr=>∃(i:Nat) (zs:List aP),v= .int .i64 i/\a+1<=i/\i<=b+1/\Stab.jX ys zs a b/\Stab.lQ aT ys zs/\Stab.bp aT zs a i/\SW w0 g zs wr) (fun v _=>b+1- (intOf v).toNat)
 case atStart=>exact⟨a+1,ys,by go_num,aj,by have:=HAB.out;omega,Stab.jX.refl _ _ _,Stab.lQ.refl _,Stab.bp.one _ _ _ aj,HW.out⟩
 case round=>
  obtain⟨i,zs,rfl,hai,hib,hwin,hstb,hsrt,hsw⟩:=hrel;have WIN:=aa hwin;have STB:=aa hstb;have SRT:=aa hsrt;have HSW:=aa hsw;have ZL:Hid (zs.length=N) :=by show _=_;rw[hwin.len,hN.out]
  have AI:=aa hai;clear hwin hstb hsrt hsw hai;by_cases hlt:i<b
  ·have hltz: (i:Int) <b:=by omega
   have IB:=aa hlt;have im: (i:Int)<=1000000:=by omega
   clear hlt;go_wp2_with fail;go_loopw [9] (fun v wq=>∃(j:Nat) (us:List aP),v= .int .i64 j/\a<=j/\j<=i/\Stab.Ix us zs (Stab.fL j i (i+1))/\ (∀k,j<=k->k<i->aR (aT (Stab.g zs i)) (aT (Stab.g zs k)) <0)/\SW w0 g us wq) (fun v _=> (intOf v).toNat)
   case atStart=>exact⟨i,zs,rfl,by have:=AI.out;omega,aj,Stab.Ix.refl zs (fun k=>by have:=Stab.bM i i (i+1) k;omega),fun k h1 h2=>by omega,HSW.out⟩
   case round=>
    obtain⟨j,us,rfl,haj,hji,hix,hgt,hsu⟩:=hrel;have HIX:=aa hix;have HGT:=aa hgt;have HSU:=aa hsu;have UL:Hid (us.length=N) :=by show _=_;rw[hix.1,ZL.out]
    have AJ:=aa haj;have JI:=aa hji
    have DONE:Hid ((∀k,a<=k->k<j->aR (aT (Stab.g zs k)) (aT (Stab.g zs i))<=0)->∀wq,SW w0 g us wq->∃(i':Nat) (zs':List aP),(Value.int .i64 ((i:Int) +1)) = .int .i64 i'/\a+1<=i'/\i'<=b+1/\Stab.jX ys zs' a b/\Stab.lQ aT ys zs'/\Stab.bp aT zs' a i'/\SW w0 g zs' wq) :=fun h wq hq=>by
     have m:=Stab.ui HIX.out AJ.out JI.out (by rw[ZL.out];have:=IB.out;have:=HB.out;omega) SRT.out h HGT.out;exact⟨i+1,us,by go_num,by have:=AI.out;omega,by have:=IB.out;omega,WIN.out.trans (m.win.wide aj IB.out),STB.out.trans m.yV,m.eD,hq⟩
    clear hix hgt hsu haj hji;by_cases hja:a<j
    ·have hjaz: (a:Int) <j:=by omega
     obtain⟨q,rfl⟩:∃q,j=q+1:=⟨j- 1,by omega⟩;have hjaz': (a:Int) < (q:Int) +1:=by omega
     have jz: (q:Int) +1<N:=by have:=JI.out;have:=IB.out;have:=HB.out;omega
     have jz1: (q:Int) <N:=by omega
     have p0: (0:Int)<= (q:Int) +1:=by omega
     have e0: ((q:Int) +1).toNat=q+1:=by omega
     have hwp:IntKind.i64.wrap (q:Int) = (q:Int) :=gw (by omega) (by have:=NM.out;omega);have ej:Stab.g us (q+1) =Stab.g zs i:=by rw[HIX.out.g];have:=Stab.bM (q+1) i (i+1) (q+1);have:=JI.out;congr 1;omega
     have eq':Stab.g us q=Stab.g zs q:=by rw[HIX.out.g];have:=Stab.bM (q+1) i (i+1) q;have:=JI.out;congr 1;omega
     obtain⟨ci,cj,hall⟩:=SW.test HR.out HSU.out (by rw[UL.out,<- HS.out,hN.out]) (i:=q+1) (j:=q) (by rw[UL.out];omega) (by rw[UL.out];omega);obtain⟨q1,q2,hcg,hcls⟩:=hall K hK.out;rw[ej,eq']at hcg;have CLS:=aa hcls;obtain⟨Z,hZ⟩:=named (aR (aT (Stab.g zs i)) (aT (Stab.g zs q)));rw[<- hZ.out]at hcg;clear hall hcls ej eq' hja;by_cases hlv:Z<0
     ·go_wp2_with fail;go_quiet_grown (first| (go_at_call 96;refine Calls.grown_of (hcg _ _)));go_wp2_with fail;have hsw2:=CLS.out nq osq;clear q1 q2 hcg;generalize grow (_:World) osq=wq2 at hsw2⊢;obtain⟨di,dj,hall⟩:=SW.cells HR.out hsw2 (by rw[UL.out,<- HS.out,hN.out]) Tryz.prog (i:=q+1) (j:=q) (by rw[UL.out];omega) (by rw[UL.out];omega);obtain⟨l1,l2,q1,q2,q3,q4,q5⟩:=hall K hK.out;have Q5:=aa q5;have STEP:Hid (Stab.Ix (Stab.zG us (q+1) q) zs (Stab.fL q i (i+1))) :=HIX.out.trans (Stab.qk (by rw[UL.out];omega) (by rw[UL.out];omega)) (fun k=>by have:=Stab.rL (j:=q+1) (i:=i) JI.out (by omega) k;simpa using this);clear q5 hall hsw2;go_big_region_o
      all_goals go_wp2
      go_round
      case rel=>exact⟨q,_,by go_num,by omega,by have:=JI.out;omega,STEP.out,fun k h1 h2=>by
       by_cases e:k=q
       ·subst e;rw[<- hZ.out];exact hlv
       ·exact HGT.out k (by omega) h2,Q5.out⟩
      case measure=>simp[intOf]
     ·go_wp2_with fail;go_quiet_grown (first| (go_at_call 96;refine Calls.grown_of (hcg _ _)));go_wp2
      go_round
      case rel=>exact DONE.out (fun k h1 h2=>by
       have h3:aR (aT (Stab.g zs q)) (aT (Stab.g zs i))<=0:=Stab.mH (by rw[<- hZ.out];omega);exact cm _ _ _ (SRT.out.le h1 (show k<=q by omega) (by have:=JI.out;omega)) h3) _ (CLS.out nq osq)
      case measure=>simp[intOf];omega
    ·have hjaz:decide ((j:Int) > (a:Int)) =false:=decide_eq_false (by omega);have hjaz':¬(a:Int) < (j:Int) :=by omega
     have HD:=aa (DONE.out (fun k h1 h2=>by omega));have HDR:Hid (SW w0 g us (World.drew _)) :=SWK.drew HSU.out;clear DONE;go_wp2_with fail;go_big_region_o
     all_goals go_wp2
     go_round
     case rel=>exact HD.out _ HDR.out
     case measure=>simp[intOf];omega
  ·have hltz:¬(i:Int) <b:=by omega
   go_wp2
   go_end0
   refine⟨rfl,zs,⟨WIN.out,STB.out,SRT.out.sub aj (by omega)⟩,HSW.out⟩
theorem Bq (w0:World)(g:Nat)(d0:Array aP)(R:RowK eY 6 w0 g 0 d0)(ys:List aP)(W:World)(hW:SW w0 g ys W)(hs:ys.length=d0.size)(cap a m b:Nat)(ham:a<m)(hmb:m<b)(hb:b<=ys.length)(hm:ys.length<=1000000)(f:Value) :
 Calls Tryz.prog 218 #[.slice (some ⟨g,0,none⟩) ys.length cap,.int .i64 a,.int .i64 m,.int .i64 b,f] W fun e w'=>e= .returned (.tuple #[])/\∃zs,Stab.Ix zs ys (Stab.fL a m b)/\SW w0 g zs w':=by
 have HR:=aa R;have HW:=aa hW;have HS:=aa hs;obtain⟨N,hN⟩:=named ys.length;have HB:Hid (b<=N) :=by show _<=_;rw[hN.out];exact hb
 have HAM:=aa ham;have HMB:=aa hmb;have NM:Hid (N<=1000000) :=by show _<=_;rw[hN.out];exact hm
 have SWR:Hid (∀(zs:List aP) (wq:World) (x y n:Nat),zs.length=N->SW w0 g zs wq->x+n<=y->y+n<=N->Calls Tryz.prog 240 #[.slice (some ⟨g,0,none⟩) N cap,.int .i64 x,.int .i64 y,.int .i64 n,f] wq fun e w'=>e= .returned (.tuple #[])/\∃us,Stab.Ix us zs (Stab.oY x y n)/\SW w0 g us w') :=fun zs wq x y n hl hz h1 h2=>by
  subst hl;exact BG w0 g d0 HR.out zs wq hz (by rw[<- HS.out,<- hN.out]) cap x y n h1 h2 NM.out f
 rw[<- hN.out];have bm: (b:Int)<=1000000:=by have:=HB.out;have:=NM.out;omega
 have mm: (m:Int)<=1000000:=by omega
 have am: (a:Int)<=1000000:=by omega
 have ami: (a:Int) <m:=by omega
 have mbi: (m:Int) <b:=by omega
 clear R hW hs ham hmb hb hm;go_enter Tryz.func218,Tryz.ntmps218;go_wp2_with fail;go_loopw [10,11] (fun v u wr=>∃(i j:Nat) (zs:List aP) (σ:Nat->Nat),v= .int .i64 i/\u= .int .i64 j/\0<i/\0<j/\i<=m/\m+j<=N/\zs.length=N/\Stab.Ix zs ys σ/\ (∀k,σ (Stab.fL (m- i) m (m+j) k) =Stab.fL a m b k)/\SW w0 g zs wr) (fun v u _=> (intOf v).toNat+ (intOf u).toNat)
 case atStart=>exact⟨m- a,b- m,ys,id,by go_num,by go_num,by omega,by omega,by omega,by have:=HB.out;omega,hN.out.symm,Stab.Ix.refl ys (fun k=>rfl),fun k=>by show Stab.fL _ _ _ _=_;congr 1<;>omega,HW.out⟩
 case round=>
  obtain⟨i,j,zs,σ,rfl,rfl,hi,hj,him,hjn,hl,hix,hσ,hsw⟩:=hrel;have HIX:=aa hix;have HSG:=aa hσ;have HSW:=aa hsw;have HL:=aa hl;have HI:=aa hi;have HJ:=aa hj;have HIM:=aa him;have HJN:=aa hjn;have ii: (i:Int)<=m:=by omega
  have jj: (j:Int)<=1000000:=by have:=NM.out;omega
  clear hix hσ hsw hl;by_cases hij:i=j
  ·subst hij;have S:=SWR.out zs wr (m- i) m i HL.out HSW.out (by omega) (by omega);rw[show((m- i:Nat) :Int) = (m:Int) - i by omega]at S;have SS:=aa S;clear S hi hj him hjn;go_wp2_with fail;refine SS.out.mono ?_;rintro e w1 ⟨rfl,us,hix,hsw⟩;go_wp2_with fail
   go_end0
   exact⟨rfl,us,HIX.out.trans hix (fun k=>by rw[Stab.yH HIM.out,HSG.out]),hsw⟩
  ·have nij: ((i:Int) != (j:Int)) =true:=by simp;omega
   by_cases hlt:j<i
   ·have hlti: (j:Int) <i:=by omega
    have S:=SWR.out zs wr (m- i) m j HL.out HSW.out (by omega) (by omega);rw[show((m- i:Nat) :Int) = (m:Int) - i by omega]at S;have SS:=aa S;have IJ:=aa hlt;clear S hi hj him hjn hij hlt;go_wp2_with fail;refine SS.out.mono ?_;rintro e w1 ⟨rfl,us,hix,hsw⟩;have HU:=aa hsw;have HX:=aa hix;clear hix hsw;go_wp2_with fail
    go_round
    case rel=>exact⟨i- j,j,us,fun k=>σ (Stab.oY (m- i) m j k),by go_num,by go_num,by have:=IJ.out;omega,HJ.out,by have:=HIM.out;omega,HJN.out,HX.out.1.trans HL.out,HIX.out.trans HX.out (fun k=>rfl),fun k=>by
     show σ (Stab.oY (m- i) m j _) =_;rw[Stab.yI HIM.out IJ.out,HSG.out],HU.out⟩
    case measure=>have:=HJ.out;have:=IJ.out;simp[intOf];omega
   ·have hlti: (i:Int) <j:=by omega
    have nlt:¬(j:Int) <i:=by omega
    have S:=SWR.out zs wr (m- i) (m+j- i) i HL.out HSW.out (by omega) (by omega);rw[show((m- i:Nat) :Int) = (m:Int) - i by omega,show((m+j- i:Nat) :Int) = (m:Int) +j- i by omega]at S;have SS:=aa S;have IJ:Hid (i<j) :=by show _<_;omega
    clear S hi hj him hjn hij hlt;go_wp2_with fail;refine SS.out.mono ?_;rintro e w1 ⟨rfl,us,hix,hsw⟩;have HU:=aa hsw;have HX:=aa hix;clear hix hsw;go_wp2_with fail
    go_round
    case rel=>exact⟨i,j- i,us,fun k=>σ (Stab.oY (m- i) (m+j- i) i k),by go_num,by go_num,HI.out,by have:=IJ.out;omega,HIM.out,by have:=HJN.out;omega,HX.out.1.trans HL.out,HIX.out.trans HX.out (fun k=>rfl),fun k=>by
     show σ (Stab.oY (m- i) (m+j- i) i _) =_;rw[Stab.vO HIM.out IJ.out,HSG.out],HU.out⟩
    case measure=>have:=HI.out;have:=IJ.out;simp[intOf];omega
def Ce (w0:World)(g:Nat)(N cap L:Nat) :Prop:=∀(ys:List aP) (W:World) (a m b:Nat),ys.length=N->SW w0 g ys W->a<m->m<b->b<=N->b- a<=L->Stab.bp aT ys a m->Stab.bp aT ys m b->
 Calls Tryz.prog 194 #[.slice (some ⟨g,0,none⟩) N cap,.int .i64 a,.int .i64 m,.int .i64 b,.func (.func 96) #[] #[]] W fun e w'=>e= .returned (.tuple #[])/\∃zs,Stab.kO aT ys zs a b/\SW w0 g zs w'
theorem zg (w0:World)(g:Nat)(d0:Array aP)(R:RowK eY 6 w0 g 0 d0)(ys:List aP)(W:World)(hW:SW w0 g ys W)(N:Nat)(hN:ys.length=N)(hs:N=d0.size)(cap a m b:Nat)(ham:a<m)(hmb:m<b)(hb:b<=N)(hm:N<=1000000)(s1:Stab.bp aT ys a m)(s2:Stab.bp aT ys m b)(h1:m=a+1) :
 Calls Tryz.prog 194 #[.slice (some ⟨g,0,none⟩) N cap,.int .i64 a,.int .i64 m,.int .i64 b,.func (.func 96) #[] #[]] W fun e w'=>e= .returned (.tuple #[])/\∃zs,Stab.kO aT ys zs a b/\SW w0 g zs w':=by
 have HR:=aa R;have HW:=aa hW;have HS:=aa hs;have HN:=aa hN;have S1:=aa s1;have S2:=aa s2;have HAM:=aa ham;have HMB:=aa hmb;have HB:=aa hb;have NM:=aa hm
 have aE:∀w,(isAgg 77).run Tryz.prog w= .ok true w:=fun w=>by
  unfold isAgg;rw[Sem.run_bind,run_underlying Tryz.underlying77 w];simp
 obtain⟨K,hK⟩:=named 6;have zE:∀w,(Go.sizeOf 77).run Tryz.prog w= .ok K w:=fun w=>by rw[hK.out];rfl
 have mixed:Tryz.prog.follows .mixedOrders=true:=by kernel_rfl
 have bi: (b:Int)<=1000000:=by omega
 have mi: (m:Int)<=1000000:=by omega
 have ai: (a:Int)<=1000000:=by omega
 have bN: (b:Int)<=N:=by omega
 have mN: (m:Int) <N:=by omega
 have aN: (a:Int) <N:=by omega
 have M1:=aa h1;have S2':Hid (Stab.bp aT ys (a+1) b) :=by show Stab.bp _ _ _ _;rw[<- h1];exact s2
 have m1: (m:Int) - a=1:=by omega
 clear R hW hs hN s1 s2 ham hmb hb hm h1;go_enter Tryz.func194,Tryz.ntmps194;go_wp2_with fail;go_loopw [10,11] (fun v u wr=>∃(i j:Nat),v= .int .i64 i/\u= .int .i64 j/\a+1<=i/\i<=j/\j<=b/\ (∀k,a+1<=k->k<i->aR (aT (Stab.g ys k)) (aT (Stab.g ys a)) <0)/\ (∀k,j<=k->k<b->aR (aT (Stab.g ys a)) (aT (Stab.g ys k))<=0)/\SW w0 g ys wr) (fun v u _=> (intOf u).toNat- (intOf v).toNat)
 case atStart=>exact⟨m,b,rfl,rfl,by have:=M1.out;omega,by have:=HMB.out;omega,aj,fun k h h'=>by have:=M1.out;omega,fun k h h'=>by omega,HW.out⟩
 case round=>
  obtain⟨i,j,rfl,rfl,hi,hij,hj,hlo,hhi,hsw⟩:=hrel;have LO:=aa hlo;have HI:=aa hhi;have HSW:=aa hsw;have AI:=aa hi;have JB:=aa hj;have jj: (j:Int)<=1000000:=by omega
  have ii: (i:Int)<=1000000:=by omega
  clear hlo hhi hsw;by_cases hlt:i<j
  ·have hlti: (i:Int) <j:=by omega
   obtain⟨h,hh⟩:=named ((i+j) /2);have hhi: ((i:Int) +j) /2= (h:Int) :=by have:=hh.out;omega
   have hN1: (h:Int) <N:=by have:=hh.out;have:=HB.out;omega
   have HH:Hid (i<=h/\h<j) :=by show _/\_;have:=hh.out;omega
   obtain⟨ci,cj,hall⟩:=SW.test HR.out HSW.out (by rw[HN.out,HS.out]) (i:=h) (j:=a) (by rw[HN.out];omega) (by rw[HN.out];omega);obtain⟨q1,q2,hcg,hcls⟩:=hall K hK.out;have CLS:=aa hcls;obtain⟨Z,hZ⟩:=named (aR (aT (Stab.g ys h)) (aT (Stab.g ys a)));rw[<- hZ.out]at hcg;have IJ:=aa hlt;clear hall hcls hi hij hj hh hlt;by_cases hlv:Z<0
   ·have HLV:=aa hlv;go_wp2_with fail;go_quiet_grown (first| (go_at_call 96;refine Calls.grown_of (hcg _ _)));go_wp2
    (all_goals (try (exfalso;omega)))
    go_round
    case rel=>exact⟨h+1,j,by go_num,rfl,by have:=AI.out;have:=HH.out;omega,by have:=HH.out;omega,JB.out,fun k h1 h2=>by
     have h3:aR (aT (Stab.g ys h)) (aT (Stab.g ys a)) <0:=by rw[<- hZ.out];exact HLV.out
     exact Stab.rj (S2'.out.le h1 (show k<=h by omega) (by have:=HH.out;have:=JB.out;omega)) h3,HI.out,CLS.out _ _⟩
    case measure=>have:=HH.out;simp[intOf];omega
   ·have HLV:Hid (¬Z<0) :=hlv;have hzd:decide (Z<0) =false:=decide_eq_false hlv;go_wp2_with fail;go_quiet_grown (first| (go_at_call 96;refine Calls.grown_of (hcg _ _)));go_wp2
    (all_goals (try (exfalso;omega)))
    go_round
    case rel=>exact⟨i,h,rfl,rfl,AI.out,HH.out.1,by have:=HH.out;have:=JB.out;omega,LO.out,fun k h1 h2=>by
     have h3:aR (aT (Stab.g ys a)) (aT (Stab.g ys h))<=0:=Stab.mH (by rw[<- hZ.out];have:=HLV.out;omega);exact cm _ _ _ h3 (S2'.out.le (by have:=AI.out;have:=HH.out;omega) h1 h2),CLS.out _ _⟩
    case measure=>have:=HH.out;simp[intOf];omega
  ·obtain rfl:i=j:=by omega
   have nlt:¬(i:Int) <i:=by omega
   have i1: (1:Int)<=i:=by omega
   have FIN:Hid (∀us wq,Stab.Ix us ys (Stab.fL a (a+1) i)->SW w0 g us wq->∃zs,Stab.kO aT ys zs a b/\SW w0 g zs wq) :=fun us wq hx hq=>⟨us,Stab.Ap hx AI.out JB.out (by rw[HN.out];exact HB.out) S2'.out LO.out HI.out,hq⟩;clear hij hi hj hlt;go_wp2_with fail;go_loopw [13] (fun v wr=>∃(k:Nat) (us:List aP),v= .int .i64 k/\a<=k/\k+1<=i/\Stab.Ix us ys (Stab.fL a (a+1) (k+1))/\SW w0 g us wr) (fun v _=>i- (intOf v).toNat)
   case atStart=>exact⟨a,ys,rfl,aj,AI.out,Stab.Ix.refl ys (fun k=>by have:=Stab.bM a (a+1) (a+1) k;omega),HSW.out⟩
   case round=>
    obtain⟨k,us,rfl,hak,hki,hix,hsu⟩:=hrel;have HX:=aa hix;have HU:=aa hsu;have AK:=aa hak;have KI:=aa hki;have UL:Hid (us.length=N) :=by show _=_;rw[hix.1,HN.out]
    have kk: (k:Int)<=1000000:=by omega
    clear hix hsu hak;by_cases hlt:k+1<i
    ·have hlti: (k:Int) < (i:Int) - 1:=by omega
     have k1: (k:Int) +1<N:=by have:=JB.out;have:=HB.out;omega
     have k2: (k:Int) <N:=by omega
     have p0: (0:Int)<= (k:Int) +1:=by omega
     have e0: ((k:Int) +1).toNat=k+1:=by omega
     obtain⟨di,dj,hall⟩:=SW.cells HR.out HU.out (by rw[UL.out,HS.out]) Tryz.prog (i:=k) (j:=k+1) (by rw[UL.out];omega) (by rw[UL.out];omega);obtain⟨l1,l2,q1,q2,q3,q4,q5⟩:=hall K hK.out;have Q5:=aa q5;have STEP:Hid (Stab.Ix (Stab.zG us k (k+1)) ys (Stab.fL a (a+1) (k+2))) :=HX.out.trans (Stab.qk (by rw[UL.out];omega) (by rw[UL.out];omega)) (fun q=>Stab.vN AK.out q);have LT:=aa hlt;clear q5 hall hlt hki;go_wp2_with fail;go_big_region_o
     all_goals go_wp2
     go_round
     case rel=>exact⟨k+1,_,by go_num,by have:=AK.out;omega,by have:=LT.out;omega,STEP.out,Q5.out⟩
     case measure=>have:=LT.out;simp[intOf];omega
    ·obtain rfl:i=k+1:=by omega
     have nlt2:¬(k:Int) < ((k+1:Nat) :Int) - 1:=by omega
     have F:=aa (FIN.out us _ HX.out HU.out);clear FIN hlt hki;go_wp2;exact bodyPost_ret (results_none rfl _ _ _) rfl ⟨rfl,F.out⟩
theorem vW (w0:World)(g:Nat)(d0:Array aP)(R:RowK eY 6 w0 g 0 d0)(ys:List aP)(W:World)(hW:SW w0 g ys W)(N:Nat)(hN:ys.length=N)(hs:N=d0.size)(cap a m b:Nat)(ham:a<m)(hmb:m<b)(hb:b<=N)(hm:N<=1000000)(s1:Stab.bp aT ys a m)(s2:Stab.bp aT ys m b)(h0:m≠a+1)(h1:b=m+1) :
 Calls Tryz.prog 194 #[.slice (some ⟨g,0,none⟩) N cap,.int .i64 a,.int .i64 m,.int .i64 b,.func (.func 96) #[] #[]] W fun e w'=>e= .returned (.tuple #[])/\∃zs,Stab.kO aT ys zs a b/\SW w0 g zs w':=by
 have HR:=aa R;have HW:=aa hW;have HS:=aa hs;have HN:=aa hN;have S1:=aa s1;have S2:=aa s2;have HAM:=aa ham;have HMB:=aa hmb;have HB:=aa hb;have NM:=aa hm
 have aE:∀w,(isAgg 77).run Tryz.prog w= .ok true w:=fun w=>by
  unfold isAgg;rw[Sem.run_bind,run_underlying Tryz.underlying77 w];simp
 obtain⟨K,hK⟩:=named 6;have zE:∀w,(Go.sizeOf 77).run Tryz.prog w= .ok K w:=fun w=>by rw[hK.out];rfl
 have mixed:Tryz.prog.follows .mixedOrders=true:=by kernel_rfl
 have bi: (b:Int)<=1000000:=by omega
 have mi: (m:Int)<=1000000:=by omega
 have ai: (a:Int)<=1000000:=by omega
 have bN: (b:Int)<=N:=by omega
 have mN: (m:Int) <N:=by omega
 have aN: (a:Int) <N:=by omega
 have M1:=aa h1;have m0: ((m:Int) - a==1) =false:=by simp;omega
 have m1: (b:Int) - m=1:=by omega
 clear R hW hs hN s1 s2 ham hmb hb hm h0 h1;go_enter Tryz.func194,Tryz.ntmps194;go_wp2_with fail;go_loopw [14,15] (fun v u wr=>∃(i j:Nat),v= .int .i64 i/\u= .int .i64 j/\a<=i/\i<=j/\j<=m/\ (∀k,a<=k->k<i->aR (aT (Stab.g ys k)) (aT (Stab.g ys m))<=0)/\ (∀k,j<=k->k<m->aR (aT (Stab.g ys m)) (aT (Stab.g ys k)) <0)/\SW w0 g ys wr) (fun v u _=> (intOf u).toNat- (intOf v).toNat)
 case atStart=>exact⟨a,m,rfl,rfl,aj,by have:=HAM.out;omega,aj,fun k h h'=>by omega,fun k h h'=>by omega,HW.out⟩
 case round=>
  obtain⟨i,j,rfl,rfl,hi,hij,hj,hlo,hhi,hsw⟩:=hrel;have LO:=aa hlo;have HI:=aa hhi;have HSW:=aa hsw;have AI:=aa hi;have JB:=aa hj;have jj: (j:Int)<=1000000:=by omega
  have ii: (i:Int)<=1000000:=by omega
  clear hlo hhi hsw;by_cases hlt:i<j
  ·have hlti: (i:Int) <j:=by omega
   obtain⟨h,hh⟩:=named ((i+j) /2);have hhi: ((i:Int) +j) /2= (h:Int) :=by have:=hh.out;omega
   have hN1: (h:Int) <N:=by have:=hh.out;have:=HB.out;omega
   have HH:Hid (i<=h/\h<j) :=by show _/\_;have:=hh.out;omega
   obtain⟨ci,cj,hall⟩:=SW.test HR.out HSW.out (by rw[HN.out,HS.out]) (i:=m) (j:=h) (by rw[HN.out];omega) (by rw[HN.out];omega);obtain⟨q1,q2,hcg,hcls⟩:=hall K hK.out;have CLS:=aa hcls;obtain⟨Z,hZ⟩:=named (aR (aT (Stab.g ys m)) (aT (Stab.g ys h)));rw[<- hZ.out]at hcg;clear hall hcls hi hij hj hh hlt;by_cases hlv:Z<0
   ·have HLV:=aa hlv;go_wp2_with fail;go_quiet_grown (first| (go_at_call 96;refine Calls.grown_of (hcg _ _)));go_wp2
    (all_goals (try (exfalso;omega)))
    go_round
    case rel=>exact⟨i,h,rfl,rfl,AI.out,HH.out.1,by have:=HH.out;have:=JB.out;omega,LO.out,fun k h1 h2=>by
     have h3:aR (aT (Stab.g ys m)) (aT (Stab.g ys h)) <0:=by rw[<- hZ.out];exact HLV.out
     exact Stab.ib h3 (S1.out.le (by have:=AI.out;have:=HH.out;omega) h1 h2),CLS.out _ _⟩
    case measure=>have:=HH.out;simp[intOf];omega
   ·have HLV:Hid (¬Z<0) :=hlv;have hzd:decide (Z<0) =false:=decide_eq_false hlv;go_wp2_with fail;go_quiet_grown (first| (go_at_call 96;refine Calls.grown_of (hcg _ _)));go_wp2
    (all_goals (try (exfalso;omega)))
    go_round
    case rel=>exact⟨h+1,j,by go_num,rfl,by have:=AI.out;have:=HH.out;omega,by have:=HH.out;omega,JB.out,fun k h1 h2=>by
     have h3:aR (aT (Stab.g ys h)) (aT (Stab.g ys m))<=0:=Stab.mH (by rw[<- hZ.out];have:=HLV.out;omega);exact cm _ _ _ (S1.out.le h1 (show k<=h by omega) (by have:=HH.out;have:=JB.out;omega)) h3,HI.out,CLS.out _ _⟩
    case measure=>have:=HH.out;simp[intOf];omega
  ·obtain rfl:i=j:=by omega
   have nlt:¬(i:Int) <i:=by omega
   have FIN:Hid (∀us wq,Stab.Ix us ys (Stab.fL i m (m+1))->SW w0 g us wq->∃zs,Stab.kO aT ys zs a b/\SW w0 g zs wq) :=fun us wq hx hq=>⟨us,by rw[M1.out];exact Stab.ui hx AI.out JB.out (by rw[HN.out];have:=HB.out;have:=M1.out;omega) S1.out LO.out HI.out,hq⟩;clear hij hi hj hlt;go_wp2_with fail;go_loopw [17] (fun v wr=>∃(k:Nat) (us:List aP),v= .int .i64 k/\i<=k/\k<=m/\Stab.Ix us ys (Stab.fL k m (m+1))/\SW w0 g us wr) (fun v _=> (intOf v).toNat)
   case atStart=>exact⟨m,ys,rfl,JB.out,aj,Stab.Ix.refl ys (fun k=>by have:=Stab.bM m m (m+1) k;omega),HSW.out⟩
   case round=>
    obtain⟨k,us,rfl,hak,hki,hix,hsu⟩:=hrel;have HX:=aa hix;have HU:=aa hsu;have AK:=aa hak;have KI:=aa hki;have UL:Hid (us.length=N) :=by show _=_;rw[hix.1,HN.out]
    have kk: (k:Int)<=1000000:=by omega
    clear hix hsu hki;by_cases hlt:i<k
    ·obtain⟨q,rfl⟩:∃q,k=q+1:=⟨k- 1,by omega⟩;have hlti: (i:Int) < (q:Int) +1:=by omega
     have k1: (q:Int) +1<N:=by have:=KI.out;have:=HB.out;have:=M1.out;omega
     have k2: (q:Int) <N:=by omega
     have p0: (0:Int)<= (q:Int) +1:=by omega
     have e0: ((q:Int) +1).toNat=q+1:=by omega
     have hwp:IntKind.i64.wrap (q:Int) = (q:Int) :=gw (by omega) (by have:=NM.out;omega);obtain⟨di,dj,hall⟩:=SW.cells HR.out HU.out (by rw[UL.out,HS.out]) Tryz.prog (i:=q+1) (j:=q) (by rw[UL.out];omega) (by rw[UL.out];omega);obtain⟨l1,l2,q1,q2,q3,q4,q5⟩:=hall K hK.out;have Q5:=aa q5;have STEP:Hid (Stab.Ix (Stab.zG us (q+1) q) ys (Stab.fL q m (m+1))) :=HX.out.trans (Stab.qk (by rw[UL.out];omega) (by rw[UL.out];omega)) (fun x=>by have:=Stab.rL (j:=q+1) (i:=m) KI.out (by omega) x;simpa using this);have LT:=aa hlt;clear q5 hall hlt hak;go_wp2_with fail;go_big_region_o
     all_goals go_wp2
     go_round
     case rel=>exact⟨q,_,by go_num,by have:=LT.out;omega,by have:=KI.out;omega,STEP.out,Q5.out⟩
     case measure=>simp[intOf]
    ·obtain rfl:i=k:=by omega
     have nlt2:¬(i:Int) < (i:Int) :=by omega
     have F:=aa (FIN.out us _ HX.out HU.out);clear FIN hlt hak;go_wp2;exact bodyPost_ret (results_none rfl _ _ _) rfl ⟨rfl,F.out⟩
end Tre
end Go.Proofs.YtcjagakckffkiaaGreatDoor
