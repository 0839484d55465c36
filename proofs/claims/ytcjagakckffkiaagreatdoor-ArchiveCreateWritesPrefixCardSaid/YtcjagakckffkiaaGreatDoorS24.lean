import Derived.Test.YtcjagakckffkiaaGreatDoorS23
import Derived.Test.YtcjagakckffkiaaGreatDoorS22
import Derived.Maps.AppendAt
set_option maxHeartbeats 16000000
set_option maxRecDepth 100000
namespace Go.Proofs.YtcjagakckffkiaaGreatDoor
namespace Fit
open Go.RowKit Pxr Pnm
theorem wN {t:ByteArray}{j:Nat}(h:t.size<=65536)(hj:j<t.size)(hz: (ad t).getD j 0=0) :eo t=6:=by
 unfold eo;rw[if_neg (by omega),if_pos];have hl:j< (ad t).length:=by rw[ah];exact hj
 rw[List.getD_eq_getElem?_getD,List.getElem?_eq_getElem hl]at hz;exact .inr (by rw[<- (show(ad t)[j] =0 from hz)];exact List.getElem_mem hl)
theorem vd {t:ByteArray}(h:t.size<=65536)(h0:t.size≠0)(hz:∀q,q<t.size-> (ad t).getD q 0≠0) :eo t=0:=by
 unfold eo;rw[if_neg (by omega),if_neg];rintro(e|e)
 ·exact h0 e
 ·obtain⟨i,hi,he⟩:=List.getElem_of_mem e;rw[ah]at hi;exact hz i hi (by rw[List.getD_eq_getElem?_getD,List.getElem?_eq_getElem (by rw[ah];exact hi)];exact he)
theorem rO (k:Int)(p:ByteArray)(m:Int)(t:ByteArray)(s:Int)(w:World)(ht:t.size<=maxLen) :
 Calls Tryz.prog 136 #[.agg (cB k p m t s).toArray] w fun e w'=>e= .returned (.int .i64 (oZ k t))/\Below w.heap.size w w':=by
 obtain⟨R,hR⟩:=named (oZ k t);rw[<- hR.out];by_cases h2:k=2
 ·subst h2;have e:R=eo t:=by rw[hR.out];unfold oZ;rw[if_pos rfl]
  have HR:=aa e;clear hR e;by_cases h7:65536<t.size
  ·have h7i: (65536:Int) <t.size:=by omega
   have e:=HR.out;unfold eo at e;rw[if_pos h7]at e;subst e;clear HR h7 ht;go_enter Tryz.func136,Tryz.ntmps136;go_wp2_with (first| (refine af rfl 68 _ rfl (cB 2 p m t s) rfl ?_;intro w1 g1 b1;have B1:=aa b1;have c0:=g1.get 0 rfl;have c3:=g1.get 3 rfl;clear g1 b1));go_ret;exact⟨rfl,B1.out⟩
  ·have h7i:¬(65536:Int) <t.size:=by omega
   by_cases h0:t=emp
   ·have e:=HR.out;unfold eo at e;rw[if_neg h7,if_pos (.inl (gY.1 h0))]at e;subst e;subst h0;clear HR h7 ht;go_enter Tryz.func136,Tryz.ntmps136;go_wp2_with (first| (refine af rfl 68 _ rfl (cB 2 p m emp s) rfl ?_;intro w1 g1 b1;have B1:=aa b1;have c0:=g1.get 0 rfl;have c3:=g1.get 3 rfl;clear g1 b1));go_ret;exact⟨rfl,B1.out⟩
   ·have hi:=cE h0;have HS:Hid (t.size≠0) :=fun e=>h0 (gY.2 e);have HA:Hid (∀j (h:j<t.size),(ad t).getD j 0= (t[j].toNat:Int)) :=dC t;have H7:Hid (t.size<=65536) :=by show _<=_;omega
    clear h0 h7 ht;go_enter Tryz.func136,Tryz.ntmps136;go_wp2_with (first| (refine af rfl 68 _ rfl (cB 2 p m t s) rfl ?_;intro w1 g1 b1;have B1:=aa b1;have c0:=g1.get 0 rfl;have c3:=g1.get 3 rfl;clear g1 b1));go_loop [3] (fun i=>∃j:Nat,i= .int .i64 j/\j<=t.size/\∀q,q<j-> (ad t).getD q 0≠0) (fun i=>t.size- (intOf i).toNat)
    case atStart=>exact⟨0,rfl,Nat.zero_le _,fun q hq=>by omega⟩
    case round=>
     obtain⟨j,rfl,hj,hd⟩:=hrel;have HD:=aa hd;clear hd;by_cases hlt:j<t.size
     ·have hx:=HA.out j hlt;obtain⟨x,hxe⟩:∃x:Int,((t[j].toNat:Nat) :Int) =x:=⟨_,rfl⟩;rw[hxe]at hx;have HX:=aa hx;have m1: (j:Int) <t.size:=by omega
      clear hx;by_cases c1:x=0
      ·have e:=HR.out;rw[wN H7.out hlt (by rw[HX.out];exact c1)]at e;subst e;subst c1;clear HR;go_wp2;go_ret;exact⟨rfl,B1.out⟩
      ·have n1: (x==0) =false:=by simpa using c1
       have HC:=aa c1;clear c1;go_wp2
       go_round
       case rel=>exact⟨j+1,by go_num,by omega,fun q hq=>by
        by_cases hq':q<j
        ·exact HD.out q hq'
        ·obtain rfl:q=j:=by omega
         rw[HX.out];exact HC.out⟩
       case measure=>simp[intOf];omega
     ·obtain rfl:j=t.size:=by omega
      have e:=HR.out;rw[vd H7.out HS.out HD.out]at e;subst e;clear HR;go_wp2;go_ret;exact⟨rfl,B1.out⟩
 ·have n2: (k==2) =false:=by simpa using h2
  by_cases h3:k=3
  ·subst h3;have e:R=nV (ad t) :=by rw[hR.out];unfold oZ;rw[if_neg (by decide),if_pos rfl]
   have H2:=aa fun(w':World) =>Pnm.cv t w' ht;rw[<- e]at H2;clear hR e ht h2;go_enter Tryz.func136,Tryz.ntmps136;go_wp2_with (first| (refine af rfl 68 _ rfl (cB 3 p m t s) rfl ?_;intro w1 g1 b1;have B1:=aa b1;have c0:=g1.get 0 rfl;have c3:=g1.get 3 rfl;clear g1 b1));refine(H2.out _).mono ?_;rintro e w2 ⟨rfl,rfl⟩;go_wp2;go_ret;exact⟨rfl,B1.out⟩
  ·have n3: (k==3) =false:=by simpa using h3
   have e:R=if t=emp then 0 else 2:=by rw[hR.out];unfold oZ;rw[if_neg h2,if_neg h3]
   clear hR h2 h3 ht;by_cases ht:t=emp
   ·rw[if_pos ht]at e;subst e;subst ht;go_enter Tryz.func136,Tryz.ntmps136;go_wp2_with (first| (refine af rfl 68 _ rfl (cB k p m emp s) rfl ?_;intro w1 g1 b1;have B1:=aa b1;have c0:=g1.get 0 rfl;have c3:=g1.get 3 rfl;clear g1 b1));go_ret;exact⟨rfl,B1.out⟩
   ·rw[if_neg ht]at e;have hi:=cE ht;clear ht;subst e;go_enter Tryz.func136,Tryz.ntmps136;go_wp2_with (first| (refine af rfl 68 _ rfl (cB k p m t s) rfl ?_;intro w1 g1 b1;have B1:=aa b1;have c0:=g1.get 0 rfl;have c3:=g1.get 3 rfl;clear g1 b1));go_ret;exact⟨rfl,B1.out⟩
theorem cv (k:Int)(p:ByteArray)(m:Int)(t:ByteArray)(s:Int)(w:World)(hp:p.size<=maxLen)(ht:t.size<=maxLen) :
 Calls Tryz.prog 82 #[.agg (cB k p m t s).toArray] w fun e w'=>e= .returned (.int .i64 (dn ⟨k,p,m,t,s⟩))/\Below w.heap.size w w':=by
 obtain⟨R,hR⟩:=named (dn ⟨k,p,m,t,s⟩);obtain⟨E1,h1⟩:=named (nV (ad p));obtain⟨E2,h2⟩:=named (oZ k t)
 have HR:Hid (R=if k<0\/4<=k then 8 else if E1≠0 then E1 else if m<0\/4095<m\/ (k=2/\m≠0)then 16 else if E2≠0 then E2 else nH k s) :=by
  show _=_;rw[hR.out,h1.out,h2.out];rfl
 have C1:Hid (∀w',Calls Tryz.prog 135 #[.string p] w' fun e w''=>e= .returned (.int .i64 E1)/\w'=w'') :=fun w'=>by rw[h1.out];exact Pnm.cv p w' hp
 have C2:Hid (∀w',Calls Tryz.prog 136 #[.agg (cB k p m t s).toArray] w' fun e w''=>e= .returned (.int .i64 E2)/\Below w'.heap.size w' w'') :=fun w'=>by rw[h2.out];exact rO k p m t s w' ht
 rw[<- hR.out];clear hR h1 h2 hp ht;by_cases k0:k<0
 ·have e:=HR.out;rw[if_pos (.inl k0)]at e;subst e;clear HR C1 C2;go_enter Tryz.func82,Tryz.ntmps82;go_wp2_with (first| (refine af rfl 68 _ rfl (cB k p m t s) rfl ?_;intro w1 g1 b1;have B1:=aa b1;have c0:=g1.get 0 rfl;clear g1 b1));go_ret;exact⟨rfl,B1.out⟩
 by_cases k4:3<k
 ·have e:=HR.out;rw[if_pos (.inr (by omega))]at e;subst e;clear HR C1 C2;go_enter Tryz.func82,Tryz.ntmps82;go_wp2_with (first| (refine af rfl 68 _ rfl (cB k p m t s) rfl ?_;intro w1 g1 b1;have B1:=aa b1;have c0:=g1.get 0 rfl;clear g1 b1));go_ret;exact⟨rfl,B1.out⟩
 go_enter Tryz.func82,Tryz.ntmps82;go_wp2_with (first| (refine af rfl 68 _ rfl (cB k p m t s) rfl ?_;intro w1 g1 b1;have H1:=aa g1;have B1:=aa b1;have c0:=g1.get 0 rfl;have c1:=g1.get 1 rfl;clear g1 b1));refine(C1.out w1).mono ?_;rintro e w2 ⟨rfl,rfl⟩;clear c1;by_cases z1:E1=0
 ·subst z1
  have HR':Hid (R=if m<0\/4095<m\/ (k=2/\m≠0)then 16 else if E2≠0 then E2 else nH k s) :=by
   have e:=HR.out;rw[if_neg (by omega),if_neg (by simp)]at e;exact e
  clear HR;have c2:=H1.out.get 2 rfl;by_cases m0:m<0
  ·have e:=HR'.out;rw[if_pos (.inl m0)]at e;subst e;go_wp2_with fail;go_ret;exact⟨rfl,B1.out⟩
  by_cases m1:4095<m
  ·have e:=HR'.out;rw[if_pos (.inr (.inl m1))]at e;subst e;go_wp2_with fail;go_ret;exact⟨rfl,B1.out⟩
  by_cases k2:k=2/\m≠0
  ·have e:=HR'.out;rw[if_pos (.inr (.inr k2))]at e;subst e;obtain⟨rfl,hm⟩:=k2;have n2: (m !=0) =true:=by simpa using hm
   go_wp2_with fail;go_ret;exact⟨rfl,B1.out⟩
  have HR2:Hid (R=if E2≠0 then E2 else nH k s) :=by
   have e:=HR'.out;rw[if_neg (by omega)]at e;exact e
  clear HR';have c1:=H1.out.get 1 rfl;have c3:=H1.out.get 3 rfl;have c4:=H1.out.get 4 rfl
  have hk: (k==2) =false\/ (k=2/\m=0) :=by
   by_cases h:k=2
   ·exact .inr ⟨h,by omega⟩
   ·exact .inl (by simpa using h)
  clear C1 k0 k4 k2;rcases hk with n2|⟨rfl,rfl⟩
  ·go_wp2_with fail;refine(C2.out w1).mono ?_;rintro e w3 ⟨rfl,b3⟩;have H3:=aa (H1.out.below b3 H1.out.lt);have B3:=aa (ar B1.out b3);clear b3 c0 c1 c2 c3 c4;by_cases z2:E2=0
   ·subst z2;have HE:Hid (R=nH k s) :=by have e:=HR2.out;rw[if_neg (by simp)]at e;exact e
    clear HR2;have c0:=H3.out.get 0 rfl;have c4:=H3.out.get 4 rfl;by_cases k1:k=1
    ·subst k1;by_cases s0:s<0
     ·have e:=HE.out;unfold nH at e;rw[if_pos rfl,if_pos (.inl s0)]at e;subst e;go_wp2_with fail;go_ret;exact⟨rfl,B3.out⟩
     ·by_cases s1:1099511627776<s
      ·have e:=HE.out;unfold nH at e;rw[if_pos rfl,if_pos (.inr s1)]at e;subst e;go_wp2_with fail;go_ret;exact⟨rfl,B3.out⟩
      ·have e:=HE.out;unfold nH at e;rw[if_pos rfl,if_neg (by omega)]at e;subst e;go_wp2_with fail;go_ret;exact⟨rfl,B3.out⟩
    ·have n5: (k==1) =false:=by simpa using k1
     by_cases s0:s=0
     ·have e:=HE.out;unfold nH at e;rw[if_neg k1,if_pos s0]at e;subst e;subst s0;go_wp2_with fail;go_ret;exact⟨rfl,B3.out⟩
     ·have e:=HE.out;unfold nH at e;rw[if_neg k1,if_neg s0]at e;subst e;have n4: (s !=0) =true:=by simpa using s0
      go_wp2_with fail;go_ret;exact⟨rfl,B3.out⟩
   ·have e:=HR2.out;rw[if_pos z2]at e;subst e;have n3: (R !=0) =true:=by simpa using z2
    clear HR2 z2;go_wp2_with fail;go_ret;exact⟨rfl,B3.out⟩
  ·go_wp2_with fail;refine(C2.out w1).mono ?_;rintro e w3 ⟨rfl,b3⟩;have H3:=aa (H1.out.below b3 H1.out.lt);have B3:=aa (ar B1.out b3);clear b3 c0 c1 c2 c3 c4;by_cases z2:E2=0
   ·subst z2;have HE:Hid (R=nH 2 s) :=by have e:=HR2.out;rw[if_neg (by simp)]at e;exact e
    clear HR2;have c0:=H3.out.get 0 rfl;have c4:=H3.out.get 4 rfl;by_cases s0:s=0
    ·have e:=HE.out;unfold nH at e;rw[if_neg (by decide),if_pos s0]at e;subst e;subst s0;go_wp2_with fail;go_ret;exact⟨rfl,B3.out⟩
    ·have e:=HE.out;unfold nH at e;rw[if_neg (by decide),if_neg s0]at e;subst e;have n4: (s !=0) =true:=by simpa using s0
     go_wp2_with fail;go_ret;exact⟨rfl,B3.out⟩
   ·have e:=HR2.out;rw[if_pos z2]at e;subst e;have n3: (R !=0) =true:=by simpa using z2
    clear HR2 z2;go_wp2_with fail;go_ret;exact⟨rfl,B3.out⟩
 ·have e:=HR.out;rw[if_neg (by omega),if_pos z1]at e;subst e;have n1: (R !=0) =true:=by simpa using z1
  clear HR z1;go_wp2_with fail;go_ret;exact⟨rfl,B1.out⟩
theorem Bt (k:Int)(p:ByteArray)(m:Int)(t:ByteArray)(s:Int)(w:World)(E:Int)(h0: (E !=0) =true)
 (C1:Hid (∀w',Below w.heap.size w w'->Calls Tryz.prog 82 #[.agg (cB k p m t s).toArray] w' fun e w''=>e= .returned (.int .i64 E)/\Below w'.heap.size w' w'')) :
 Calls Tryz.prog 72 #[.agg (cB k p m t s).toArray] w (jd 0 emp emp emp 0 0 [] E w) :=by
 have HO:=aa Aw;have HZ:=aa Fg;go_enter Tryz.func72,Tryz.ntmps72;go_wp2_with (first| (refine af rfl 68 _ rfl (cB k p m t s) rfl ?_;intro w1 g1 b1;have H1:=aa g1;have B1:=aa b1;clear g1 b1) | (refine ag rfl 145 rfl Ust.bX HZ.out ?_;intro w2 g2 b2;have R2:=aa g2;have E2:=aa (H1.out.below b2 H1.out.lt);have B2:=aa (ar B1.out b2);have c0:=E2.out.get 0 rfl;have c1:=E2.out.get 1 rfl;have c2:=E2.out.get 2 rfl;have c3:=E2.out.get 3 rfl;have c4:=E2.out.get 4 rfl;clear g2 b2));refine(C1.out w2 B2.out).mono ?_;rintro e w3 ⟨rfl,b3⟩;have R3:=aa (R2.out.below b3 R2.out.lt);have B3:=aa (ar B2.out b3);have N1:Hid (w.heap.size<w1.heap.size) :=H1.out.lt;clear b3 c0 c1 c2 c3 c4;go_wp2_with (first| (refine ae rfl 145 _ _ rfl w1.heap.size rfl Ust.bX Ust.bX rfl 145 R3.out HO.out.2 rfl (bL _ _ _ _ _ _) ?_;intro w4 g4 t4;have R4:=aa g4;have T4:=aa t4;clear g4 t4));exact bodyPost_ret (az Tryz.results72 HO.out _ w1.heap.size rfl _ Ust.bX R4.out rfl) rfl (.nil (B3.out.trans (T4.out.below (Nat.le_of_lt N1.out))))
theorem oQ (e:fM)(w:World)(hp:e.p.size<=maxLen)(ht:e.t.size<=maxLen) :Calls Tryz.prog 72 #[.agg (cB e.k e.p e.m e.t e.s).toArray] w (nS e w) :=by
 obtain⟨k,p,m,t,s⟩:=e;dsimp only at hp ht⊢;have C1:Hid (∀w',Below w.heap.size w w'->Calls Tryz.prog 82 #[.agg (cB k p m t s).toArray] w' fun e w''=>e= .returned (.int .i64 (dn ⟨k,p,m,t,s⟩))/\Below w'.heap.size w' w'') :=fun w' hb=>cv k p m t s w' hp ht;by_cases h:dn ⟨k,p,m,t,s⟩=0
 ·have hok:=fw.1 h;rw[h]at C1;obtain⟨e1,e2⟩:=gE h;have KG:Hid (we k=we k) :=rfl;have C2:Hid (∀w',Calls Tryz.prog 116 #[.string p] w' fun e w''=>e= .returned (.tuple #[.string (strOfNums (dO (ad p))),.string (strOfNums (dN (ad p))),.bool (eV (ad p))])/\Below w'.heap.size w' w'') :=fun w'=>Pnm.td p w' hp
  have C3:Hid (∀w',Below w.heap.size w w'->Calls Tryz.prog 117 #[.int .i64 s] w' fun e w''=>e= .returned (.string (strOfNums (cy s.toNat)))/\Below w'.heap.size w' w'') :=fun w' hb=>by
   obtain⟨s0,s1,_⟩:=gr hok.sz;have:=Pxr.jL s.toNat (by dsimp only at s0 s1;omega) w'
   rwa [show((s.toNat:Nat) :Int) =s by dsimp only at s0;omega]at this
  unfold nS;rw[e1,e2,h];unfold eZ jK Ep En Eo;dsimp only;exact Bs k p m t s w _ _ _ _ _ (eV (ad p)) _ _ hok.k0 hok.k4 KG C1 C2 C3 (fun h=>⟨(qf (by rw[h];decide)).2,(qf (by rw[h];decide)).1⟩) rfl rfl rfl
 ·obtain⟨e1,e2⟩:=iA h;unfold nS;rw[e1,e2];exact Bt k p m t s w _ (by simpa using h) C1
end Fit
namespace Arc
open Go.RowKit Go.Proofs.YtcjagakckffkiaaGreatDoor.Fit Pnm Tre Flt fQ Reb
theorem Dz {Z:List Int}{E:Int}{A:List Mb}{o:Nat}(h:jF Z E o 0=0)(z:¬ee ((Z.drop o).take 512)) :vZ Z E A o=⟨[],o,18⟩:=by
 unfold vZ;rw[if_neg (fun c=>c h)];exact if_pos z
theorem EG {Z:List Int}{E:Int}{A:List Mb}{o:Nat}(h:jF Z E o 0=0)(z:ee ((Z.drop o).take 512)) :vZ Z E A o=if jF Z E (o+512) 0=4 then⟨canon (bI A),o+512,0⟩else if jF Z E (o+512) 0=11 then⟨[],rp Z (o+512) 0,11⟩else⟨[],o+512,18⟩:=by
 unfold vZ;rw[if_neg (fun c=>c h)];exact if_neg (fun c=>c z)
end Arc
namespace Reb
open Go.RowKit Go.Proofs.YtcjagakckffkiaaGreatDoor.Fit Pnm Tre Flt
theorem xw (A:List Mb)(x:Mb)(k:Int)(p:ByteArray) :qU (A++ [x]) k p=match qU A k p with|some r=>some r|none=>if x.e.k=k/\x.e.p=p then some A.length else none:=by
 cases h:qU A k p with
 |some r=>
  obtain⟨h1,h2,h3,h4⟩:=fx.mp h;exact fx.mpr ⟨by rw[List.length_append];exact Nat.lt_of_lt_of_le h1 (Nat.le_add_right _ _),by rw[ic _ h1];exact h2,by rw[ic _ h1];exact h3,fun i hi=>by rw[ic _ (Nat.lt_trans hi h1)];exact h4 i hi⟩
 |none=>
  have hn:=mv.mp h;show _=if _ then _ else _;by_cases c:x.e.k=k/\x.e.p=p
  ·rw[if_pos c];exact fx.mpr ⟨by simp,by rw[lI];exact c.1,by rw[lI];exact c.2,fun i hi=>by rw[ic _ hi];exact hn i hi⟩
  ·rw[if_neg c];refine mv.mpr fun i hi=>?_;rw[List.length_append,List.length_singleton]at hi;by_cases e:i<A.length
   ·rw[ic _ e];exact hn i e
   ·obtain rfl:i=A.length:=by omega
    rw[lI];exact c
def Fm (F:Value->Option Value)(A:List Mb)(k:Int)(V:Nat->Value) :Prop:=∀p,F (.string p) = (qU A k p).map V
theorem Fm.nil (k:Int)(V:Nat->Value) :Fm (fun _=>none) [] k V:=fun _=>rfl
theorem vz {A:List Mb}{x:Mb}{i:Nat}(h:Gd A)(hi:i<A.length) :fA (A++ [x]) i=fA A i:=by
 unfold fA;rw[ic _ hi];by_cases k3: (ma A i).e.k=3
 ·obtain⟨r,hr,_,_,_,hf⟩:=h.file hi k3;have hs:qU (A++ [x]) 1 (ma A i).e.t=some r:=by rw[xw,hf]
  rw[if_pos k3,if_pos k3,hs,hf];dsimp only;rw[ic _ (Nat.lt_trans hr hi)]
 ·rw[if_neg k3,if_neg k3]
theorem sP {A:List Mb}{x:Mb}(h:Gd A) :bI (A++ [x]) =bI A++ [fA (A++ [x]) A.length] :=by
 unfold bI;rw[List.length_append,List.length_singleton,List.range_succ,List.map_append]
 congr 1
 refine List.map_congr_left fun i hi=>vz h (List.mem_range.mp hi)
end Reb
namespace Flt
open Go.RowKit Go.ChangeShapes Go.Deep
structure dh where
 n:Mb
 a:Option Addr
 cap:Nat
abbrev iR (k:Int)(p:ByteArray)(m:Int)(t:ByteArray)(s:Int)(a:Option Addr)(n cap:Nat) :List Value:= [.int .i64 k,.string p,.int .i64 m,.string t,.int .i64 s,.slice a n cap]
abbrev jA (y:dh) :List Value:=iR y.n.e.k y.n.e.p y.n.e.m y.n.e.t y.n.e.s y.a y.n.d.length y.cap
instance:Inhabited dh:=⟨⟨⟨⟨0,⟨#[]⟩,0,⟨#[]⟩,0⟩,[]⟩,none,0⟩⟩
def aF (ys:List dh) :List Value:=ys.flatMap jA
theorem dy (y:dh)(ys:List dh) :aF (y::ys) =jA y++aF ys:=by unfold aF;rw[List.flatMap_cons]
theorem mJ (xs ys:List dh) :aF (xs++ys) =aF xs++aF ys:=by unfold aF;rw[List.flatMap_append]
theorem dp:∀ys:List dh,(aF ys).length=ys.length*6
 | [] =>rfl
 |y::ys=>by
  rw[dy,List.length_append,dp ys,List.length_cons];simp;omega
theorem fy:∀(ys:List dh) (i:Nat) (y:dh),ys[i]? =some y->∀j v,(jA y)[j]? =some v-> (aF ys)[i*6+j]? =some v
 | [],i,y,h,_,_,_=>by simp at h
 |q::ys,i,y,h,j,v,hv=>by
  rw[dy]
  have hj:j<6:=by
   have:= (List.getElem?_eq_some_iff.mp hv).1
   simpa using this
  cases i with
  |zero=>
   simp at h;subst h;rw[Nat.zero_mul,Nat.zero_add,List.getElem?_append_left (by simpa using hj)];exact hv
  |succ i=>
   rw[List.getElem?_append_right (by simp;omega)];have:=fy ys i y (by simpa using h) j v hv;rw[<- this]
   congr 1
   simp;omega
def fN (w:World)(b off:Nat)(ys:List dh) :Prop:=∀i y,ys[i]? =some y->∀j v,(jA y)[j]? =some v->w.cell? ⟨b,off+i*6+j,none⟩=some v
theorem fN.c {w:World}{b off:Nat}{ys:List dh}(h:fN w b off ys){i:Nat}{y:dh}(hi:ys[i]? =some y) :
 w.cell? ⟨b,off+i*6,none⟩=some (.int .i64 y.n.e.k)/\w.cell? ⟨b,off+i*6+1,none⟩=some (.string y.n.e.p)/\w.cell? ⟨b,off+i*6+2,none⟩=some (.int .i64 y.n.e.m)/\w.cell? ⟨b,off+i*6+3,none⟩=some (.string y.n.e.t)/\w.cell? ⟨b,off+i*6+4,none⟩=some (.int .i64 y.n.e.s)/\w.cell? ⟨b,off+i*6+5,none⟩=some (.slice y.a y.n.d.length y.cap) :=
 ⟨h i y hi 0 _ rfl,h i y hi 1 _ rfl,h i y hi 2 _ rfl,h i y hi 3 _ rfl,h i y hi 4 _ rfl,h i y hi 5 _ rfl⟩
theorem fN.block {w w':World}{b off:Nat}{ys:List dh}(h:fN w b off ys)(e:w'.heap[b]? =w.heap[b]?) :fN w' b off ys:=fun i y hi j v hv=>by
 have:=h i y hi j v hv;unfold World.cell? at this⊢;rw[e];exact this
theorem fN.below {w w':World}{b off B:Nat}{ys:List dh}(h:fN w b off ys)(hb:Below B w w')(hB:b<B) :fN w' b off ys:=h.block (hb.block b hB)
def jc (w:World)(a:Option Addr)(ys:List dh) :Prop:=ys= []\/∃b off,a=some ⟨b,off,none⟩/\b<w.heap.size/\fN w b off ys
theorem jc.below {w w':World}{a:Option Addr}{ys:List dh}(h:jc w a ys)(hb:Below w.heap.size w w') :jc w' a ys:=by
 rcases h with h|⟨b,off,h1,h2,h3⟩
 ·exact .inl h
 ·exact .inr ⟨b,off,h1,Nat.lt_of_lt_of_le h2 hb.size,h3.below hb h2⟩
structure qt (w:World) (y:dh) :Prop where
 k: (Lit.int .i64 y.n.e.k).wf=true
 p:y.n.e.p.size<=140737488355328
 m: (Lit.int .i64 y.n.e.m).wf=true
 t:y.n.e.t.size<=140737488355328
 s: (Lit.int .i64 y.n.e.s).wf=true
 d:aX .u8 w y.a y.n.d.length y.cap y.n.d
 l:y.n.d.length<=140737488355328
theorem qt.below {w w':World}{y:dh}(h:qt w y)(hb:Below w.heap.size w w') :qt w' y:=⟨h.k,h.p,h.m,h.t,h.s,h.d.below hb,h.l⟩
structure dF (w:World) (a:Option Addr) (len cap:Nat) (ys:List dh) :Prop where
 n:ys.length=len
 c:len<=cap
 m:cap<=maxLen
 r:jc w a ys
 s:∀y∈ys,qt w y
theorem dF.below {w w':World}{a:Option Addr}{len cap:Nat}{ys:List dh}(h:dF w a len cap ys)(hb:Below w.heap.size w w') :dF w' a len cap ys:=⟨h.n,h.c,h.m,h.r.below hb,fun y hy=> (h.s y hy).below hb⟩
theorem dF.get {w:World}{a:Option Addr}{len cap:Nat}{ys:List dh}(h:dF w a len cap ys)(i:Nat)(hi:i<len) :
 ∃b off y,a=some ⟨b,off,none⟩/\b<w.heap.size/\ys[i]? =some y/\qt w y/\fN w b off ys:=by
 have hlt:i<ys.length:=by rw[h.n];exact hi
 have hg:ys[i]? =some ys[i] :=List.getElem?_eq_getElem hlt;rcases h.r with h0|⟨b,off,h1,h2,h3⟩
 ·simp[h0]at hlt
 ·exact⟨b,off,_,h1,h2,hg,h.s _ (List.getElem_mem _),h3⟩
def wz (ys:List dh) :List Mb:=ys.map dh.n
theorem lJ (ys:List dh) : (wz ys).length=ys.length:=by unfold wz;rw[List.length_map]
theorem pK {ys:List dh}{i:Nat}{y:dh}(h:ys[i]? =some y) : (wz ys)[i]? =some y.n:=by unfold wz;rw[List.getElem?_map,h];rfl
section
variable {H:Type} {enc:TypeId×Value->H} {P:Program} {w:World} {base:Nat} {held:Bool}
end
end Flt
section
open Go.RowKit
def oq (u v:Value) :Prop:=∀k,u.ownBlock=some k->v.ownBlock≠some k
theorem oq.symm {u v:Value}(h:oq u v) :oq v u:=fun k hv hu=>h k hu hv
theorem gp {w:World}{base n size:Nat}{e:TypeId}{v:Value}{xs:List Value}(h:w.ownsRow base e size v n xs) :∀k,v.ownBlock=some k->base<=k/\k<w.heap.size:=by
 intro k hk;rcases h.2 with⟨h',_⟩|⟨g',cap',cur,hv,hb',hh,_⟩
 ·rw[h']at hk;cases hk
 ·rw[hv]at hk;obtain rfl:g'=k:=by simpa [Value.ownBlock]using hk
  exact⟨hb',(Array.getElem?_eq_some_iff.1 hh).1⟩
theorem bS {w w':World}{base B n size:Nat}{e:TypeId}{v:Value}{xs:List Value}(h:w.ownsRow base e size v n xs)(hb:Below B w w')(hB:w.heap.size<=B) :w'.ownsRow base e size v n xs:=by
 obtain⟨h1,h2⟩:=h;refine⟨h1,?_⟩;rcases h2 with h2|⟨g',cap',cur,hv,hb',hh,r⟩
 ·exact Or.inl h2
 ·have hlt:g'<w.heap.size:= (Array.getElem?_eq_some_iff.1 hh).1;exact Or.inr ⟨g',cap',cur,hv,hb',by rw[hb.block g' (by omega)];exact hh,r⟩
theorem oq.next {w:World}{base n size:Nat}{e:TypeId}{u v v':Value}{xs:List Value}(h:oq u v)(hu:w.ownsRow base e size u n xs)(hv:v'.ownBlock=v.ownBlock\/v'.ownBlock=some w.heap.size) :oq u v':=fun k hk hk'=>by
 rcases hv with hv|hv
 ·rw[hv]at hk';exact h k hk hk'
 ·rw[hv]at hk';have:= (gp hu k hk).2;simp only[Option.some.injEq]at hk';omega
theorem lH {P:Program}{e:TypeId}{z:Value}{s b:Nat}(h: (P.info? e).map (fun i=> (i.zero,i.size,i.bytes)) =some (some z,s,b)) :
 ∃i0,Hid (P.info? e=some i0/\i0.zero=some z/\i0.size=s/\i0.bytes=b) :=by
 cases hq:P.info? e with
 |none=>simp[hq]at h
 |some i=>simp[hq]at h;exact⟨i,rfl,h.1,h.2.1,h.2.2⟩
section
variable {P:Program} {w:World} {ops:Array Oper} {rest:List Oper} {o:Oper} {a:Act} {Q:Exit->Act->World->Prop}
end
end
namespace Flt
open Go.RowKit
theorem fN.of_cells {w:World}{g:Nat}{e:TypeId}{ys:List dh}(h:an w g e (aF ys)) :fN w g 0 ys:=fun i y hi j v hv=>by
 rw[Nat.zero_add,h.cell];exact fy ys i y hi j v hv
theorem fN.news {w:World}{b off:Nat}{ys:List dh}(h:fN w b off ys) :∀j u,(aF ys)[j]? =some u->w.cell? ((⟨b,off,none⟩:Addr).add j) =some u:=fun j u hu=>by
 rw[cO];have hj:j< (aF ys).length:= (List.getElem?_eq_some_iff.mp hu).1;rw[dp]at hj;have hi:j/6<ys.length:=by omega
 have hy:ys[j/6]? =some ys[j/6] :=List.getElem?_eq_getElem hi;have hr:j % 6< (jA ys[j/6]).length:=by simp;omega
 have hv: (jA ys[j/6])[j % 6]? =some (jA ys[j/6])[j % 6] :=List.getElem?_eq_getElem hr;have h1:=fy ys (j/6) _ hy (j % 6) _ hv;rw[show j/6*6+j % 6=j by omega,hu]at h1;have h2:=h (j/6) _ hy (j % 6) _ hv;rw[show off+j/6*6+j % 6=off+j by omega]at h2;rw[h2,h1]
theorem rl (ys:List dh) :∀u∈aF ys,u.oneCell'=true:=by
 intro u hu;unfold aF at hu;obtain⟨y,_,h⟩:=List.mem_flatMap.mp hu;revert h;simp;rintro(rfl|rfl|rfl|rfl|rfl|rfl) <;>rfl
theorem jc.bG {w:World}{base n:Nat}{e:TypeId}{v:Value}{ys:List dh}(h:w.ownsRow base e 6 v n (aF ys)) :
 ∃a c,v= .slice a n c/\n=ys.length/\n<=c/\c<=maxLen/\jc w a ys/\ (∀x,a=some x->base<=x.block/\x.block<w.heap.size) :=by
 have hl:=h.1;rw[dp]at hl;have hn:n=ys.length:=by omega
 rcases h.2 with⟨hv,h0⟩|⟨g,cap,cur,hv,hb,hh,hc,hm,hs,ht⟩
 ·subst h0;exact⟨none,0,hv,hn,aj,Nat.zero_le _,.inl (List.length_eq_zero_iff.1 hn.symm),fun x hx=>by cases hx⟩
 ·have hlt:g<w.heap.size:= (Array.getElem?_eq_some_iff.1 hh).1;refine⟨some ⟨g,0,none⟩,cap,hv,hn,hc,hm,.inr ⟨g,0,rfl,hlt,fun i y hi j u hu=>?_⟩,fun x hx=>by cases hx;exact⟨hb,hlt⟩⟩;have hat:=fy ys i y hi j u hu;have hir:i<ys.length:= (List.getElem?_eq_some_iff.1 hi).1;have hj6:j<6:=by have:= (List.getElem?_eq_some_iff.mp hu).1;simpa using this
  have hlt2:i*6+j<n*6:=by omega
  rw[<- ht,List.getElem?_take,if_pos hlt2]at hat;rw[Nat.zero_add,World.cell?,hh]
  simpa using hat
theorem dF.bG {w:World}{base n:Nat}{e:TypeId}{v:Value}{ys:List dh}(h:w.ownsRow base e 6 v n (aF ys))(hf:∀y∈ys,qt w y) :
 ∃a c,v= .slice a n c/\dF w a n c ys:=by
 obtain⟨a,c,rfl,hn,hc,hm,hi,_⟩:=jc.bG h;exact⟨a,c,rfl,hn.symm,hc,hm,hi,hf⟩
section
variable {P:Program} {w:World} {ops:Array Oper} {rest:List Oper} {o:Oper} {a:Act} {Q:Exit->Act->World->Prop}
theorem rP (t e:TypeId)(ht:P.underlying t=some (.slice e))(z:Value)(hI: (P.info? e).map (fun i=> (i.zero,i.size)) =some (some z,6))(y:dh) :
 (Instr.buildSlice t 1 #[(0,.agg (jA y).toArray)]).run P w= .ok (.slice (some ⟨w.heap.size,0,none⟩) 1 1) (w.alloc (.cells (aF [y]).toArray e)) :=by
 cases hq:P.info? e with
 |none=>simp[hq]at hI
 |some i=>
  simp[hq]at hI;simp[Instr.buildSlice,run_underlying ht,sizeOf,typeInfo,zeroValue,hq,hI.1,hI.2,Instr.fill,newRow,Value.cells];rw[show Array.range 6= #[0,1,2,3,4,5] by decide];simp[aF]
theorem fH (hgd:o.guard=none)(t e:TypeId)(x:Operand)(ho:o.op= .buildSlice t 1 #[(0,x)])(ht:P.underlying t=some (.slice e))(z:Value)(hI: (P.info? e).map (fun i=> (i.zero,i.size)) =some (some z,6))
 (y:dh)(hx:a.eval x= .agg (jA y).toArray)
 (K:∀w',an w' w.heap.size e (aF [y])->Below w.heap.size w w'->wpList P ops Q rest (a.put o.dst (.slice (some ⟨w.heap.size,0,none⟩) 1 1)) w') :wpList P ops Q (o::rest) a w:=by
 refine wpList_plain hgd fun K' hK=>?_;have hrun:=rP (P:=P) (w:=w) t e ht z hI y;unfold Oper.wp;simp only[execOp,ho,List.map_toArray,List.map_cons,List.map_nil,hx,hrun,Sem.run_bind,Sem.run_pure,Result.andThen_ok];exact hK _ _ (K _ (heap_alloc_new w _) (au.alloc aj _))
theorem nw (t ty e:TypeId)(base:Nat)(i0:TypeInfo)(z:Value)(hT:P.underlying t=some (.slice e))(hI:Hid (P.info? e=some i0/\i0.zero=some z/\i0.size=6/\i0.bytes=80))(hz:z.cells.size=6)
 (v:Value)(n:Nat)(ys:List dh)(hown:w.ownsRow base e 6 v n (aF ys))
 (b:Option Addr)(m c:Nat)(xs:List dh)(hy:jc w b xs)(hl:xs.length=m)(h47:n+m<=1759218604441)(hbase:base<=w.heap.size) :
 ∃v' w',(Builtin.append_ #[t,t] ty #[v,.slice b m c]).run P w= .ok v' w'/\w'.ownsRow base e 6 v' (n+m) (aF (ys++xs))/\Below base w w'/\ (∀k,k<w.heap.size->some k≠v.ownBlock->w'.heap[k]? =w.heap[k]?)/\ (v'.ownBlock=v.ownBlock\/v'.ownBlock=some w.heap.size) :=by
 rcases hy with hy|⟨b',off,rfl,_,hy⟩
 ·subst hy;obtain rfl:m=0:=hl.symm;exact⟨v,w,cJ (P:=P) w base t ty e i0 6 hT hI.out.1 v n _ hown b c,by simpa using hown,au,fun _ _ _=>rfl,.inl rfl⟩
 ·obtain⟨v',w',hr,k1,k2,_,k3⟩:=run_append_own_at (P:=P) w base t ty e i0 z 6 80 hT hI.out.1 hI.out.2.1 hI.out.2.2.1 hI.out.2.2.2 hz (by decide) v n _ hown ⟨b',off,none⟩ m c (aF xs) (by rw[dp,hl]) hy.news (rl xs) (by unfold maxLen;omega) (by omega) hbase;exact⟨v',w',hr,by rw[mJ];exact k1,au.grown k2 hbase (fun k hk=> (gp hown k hk).1),fun k hk hr=>k2.block k hk hr,k3⟩
theorem ea (hgd:o.guard=none)(s x:Operand)(t:TypeId)(ho:o.op= .call {callee:= .builtin .append,args:= #[s,x],argTypes:= #[t,t]})
 (e:TypeId)(base:Nat)(i0:TypeInfo)(z:Value)(hT:P.underlying t=some (.slice e))(hI:Hid (P.info? e=some i0/\i0.zero=some z/\i0.size=6/\i0.bytes=80))(hz:z.cells.size=6)
 (v:Value)(n:Nat)(ys:List dh)(hs:a.eval s=v)(hown:w.ownsRow base e 6 v n (aF ys))
 (b:Option Addr)(m c:Nat)(xs:List dh)(hx:a.eval x= .slice b m c)(hy:jc w b xs)(hl:xs.length=m)(h47:n+m<=1759218604441)(hbase:base<=w.heap.size)
 (K:∀v' w',w'.ownsRow base e 6 v' (n+m) (aF (ys++xs))->Below base w w'-> (∀k,k<w.heap.size->some k≠v.ownBlock->w'.heap[k]? =w.heap[k]?)-> (v'.ownBlock=v.ownBlock\/v'.ownBlock=some w.heap.size)->wpList P ops Q rest (a.put o.dst v') w') :wpList P ops Q (o::rest) a w:=by
 obtain⟨v',w',hr,k1,k2,k3,k4⟩:=nw (P:=P) (w:=w) t o.type e base i0 z hT hI hz v n ys hown b m c xs hy hl h47 hbase;refine wpList_plain hgd fun K' hK=>?_;unfold Oper.wp;simp[execOp,ho,resolve,invoke,builtin,hs,hx,hr,Result.andThen];exact hK _ _ (K _ _ k1 k2 k3 k4)
end
end Flt
end Go.Proofs.YtcjagakckffkiaaGreatDoor
