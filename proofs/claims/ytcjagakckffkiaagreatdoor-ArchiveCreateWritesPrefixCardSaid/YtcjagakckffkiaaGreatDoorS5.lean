import Derived.Test.YtcjagakckffkiaaGreatDoorS4
import Derived.Test.YtcjagakckffkiaaGreatDoorRows
import Derived.Deep.QuietTactic
import Derived.BigQuiet
import Derived.BigRegion
set_option maxHeartbeats 16000000
set_option maxRecDepth 100000
namespace Go.Proofs.YtcjagakckffkiaaGreatDoor
namespace Ust
open Oct Cst gR
abbrev bu (T:Int)(nm pf lk:ByteArray)(md sz:Int) :List Go.Value:= [.int .u8 T,.string nm,.string pf,.string lk,.int .i64 md,.int .i64 sz]
def known (T:Int) :Prop:=T=48\/T=49\/T=50\/T=53\/T=120
instance (T:Int) :Decidable (known T) :=by unfold known;infer_instance
def iN (T:Int)(nm pf lk:ByteArray)(md sz:Int) :Int:=
 if¬known T then 8 else if eT (ad nm) 100≠0 then eT (ad nm) 100 else if eT (ad lk) 100≠0 then eT (ad lk) 100 else if eT (ad pf) 155≠0 then eT (ad pf) 155 else
  if md<0\/4095<md then 16 else if sz<0\/8589934591<sz then 3 else 0
theorem cD {T:Int}{nm pf lk:ByteArray}{md sz:Int} :iN T nm pf lk md sz=0↔known T/\eT (ad nm) 100=0/\eT (ad lk) 100=0/\eT (ad pf) 155=0/\ (0<=md/\md<=4095)/\ (0<=sz/\sz<=8589934591) :=by
 unfold iN;constructor
 ·intro h
  split at h
  ·cases h
  ·split at h
   ·contradiction
   ·split at h
    ·contradiction
    ·split at h
     ·contradiction
     ·split at h
      ·cases h
      ·split at h
       ·cases h
       ·refine⟨?_,?_,?_,?_,?_,?_⟩<;>first|omega| (apply Decidable.byContradiction;assumption)
 ·rintro⟨h1,h2,h3,h4,h5,h6⟩;rw[if_neg (by simpa using h1),if_neg (by simpa using h2),if_neg (by simpa using h3),if_neg (by simpa using h4),if_neg (by omega),if_neg (by omega)]
def gM (nm:List Int)(md sz:Int) :List Int:=bF nm 100++ (cL 7 md++ (cL 7 0++ (cL 7 0++ (cL 11 sz++cL 11 0))))
def oG:List Int:= [117,115,116,97,114,0,48,48]
def iq (T:Int)(pf lk:List Int) :List Int:= [T] ++ (bF lk 100++ (oG++ (ao 32++ (ao 32++ (cL 7 0++ (cL 7 0++ (bF pf 155++ao 12)))))))
def iV (T:Int)(nm pf lk:ByteArray)(md sz:Int) :List Int:=gM (ad nm) md sz++ (Cr++iq T (ad pf) (ad lk))
def cZ (T:Int)(nm pf lk:ByteArray)(md sz:Int) :List Int:=bJ (iV T nm pf lk md sz)
theorem fh {nm:List Int}{md sz:Int}(h:nm.length<=100) : (gM nm md sz).length=148:=by
 unfold gM;simp[bg _ _ h,aU]
theorem qn {T:Int}{pf lk:List Int}(h1:pf.length<=155)(h2:lk.length<=100) : (iq T pf lk).length=356:=by
 unfold iq;simp[bg _ _ h1,bg _ _ h2,aU,aB,oG]
theorem cX {s:ByteArray}{k:Nat}(h:eT (ad s) k=0) : (ad s).length<=k:=by have:= (fv.1 h).2.2.2;omega
theorem bD (s:ByteArray) :Bytes (ad s) :=cG s
theorem cb {zs:List Int}(h:Bytes zs)(k:Nat) :Bytes (bF zs k) :=tY zs k h
theorem bK (k:Nat)(n:Int) :Bytes (cL k n) :=mj k n
theorem eB {T:Int}(h:known T) :0<=T/\T<=255:=by unfold known at h;omega
theorem jG {T:Int}(h:0<=T/\T<=255) :Bytes [T] :=fun z hz=>by rw[List.mem_singleton.1 hz];exact h
theorem ra {nm:List Int}(h:Bytes nm)(md sz:Int) :Bytes (gM nm md sz) :=
 (cb h 100).append ((bK 7 md).append ((bK 7 0).append ((bK 7 0).append ((bK 11 sz).append (bK 11 0)))))
theorem rY {T:Int}{pf lk:List Int}(hT:0<=T/\T<=255)(h1:Bytes pf)(h2:Bytes lk) :Bytes (iq T pf lk) :=
 (jG hT).append ((cb h2 100).append (Bytes.append (by unfold oG Bytes;decide) ((cq 32).append ((cq 32).append ((bK 7 0).append ((bK 7 0).append ((cb h1 155).append (cq 12))))))))
theorem vJ {T:Int}(hT:0<=T/\T<=255)(nm pf lk:ByteArray)(md sz:Int) :Bytes (iV T nm pf lk md sz) :=
 (ra (bD nm) md sz).append (oU.append (rY hT (bD pf) (bD lk)))
theorem oC {T:Int}(hT:0<=T/\T<=255)(nm pf lk:ByteArray)(md sz:Int) :Bytes (cZ T nm pf lk md sz) :=fC (vJ hT nm pf lk md sz)
section
variable {T:Int} {nm pf lk:ByteArray} {md sz:Int}
theorem gG (h:iN T nm pf lk md sz=0) : (iV T nm pf lk md sz).length=512:=by
 obtain⟨_,h2,h3,h4,_⟩:=cD.1 h;unfold iV;simp[fh (cX (k:=100) h2),qn (cX (k:=155) h4) (cX (k:=100) h3),fD]
theorem iP (h:iN T nm pf lk md sz=0) : (cZ T nm pf lk md sz).length=512:=dQ (gG h)
theorem sy (h:iN T nm pf lk md sz=0) :bJ (cZ T nm pf lk md sz) =cZ T nm pf lk md sz:=rS _ (gG h)
theorem bt {a b:List Int}{m:Nat}(n k:Nat)(ha:a.length=n)(hm:m=n+k) : (a++b).drop m=b.drop k:=by
 subst hm;subst ha;rw[List.drop_append];simp
theorem fu {a b:List Int}{n:Nat}(ha:a.length=n) : (a++b).take n=a:=by subst ha;simp
theorem Da (h:iN T nm pf lk md sz=0) :∃F:List Int,F.length=8/\cZ T nm pf lk md sz=gM (ad nm) md sz++ (F++iq T (ad pf) (ad lk)) :=by
 obtain⟨_,h2,h3,h4,_⟩:=cD.1 h;have la:=fh (md:=md) (sz:=sz) (cX (k:=100) h2);refine⟨_,dE (iY (iV T nm pf lk md sz)),?_⟩;unfold cZ bJ lay;rw[dE];have e1: (iV T nm pf lk md sz).take 148=gM (ad nm) md sz:=fu la
 have e2: (iV T nm pf lk md sz).drop (148+8) =iq T (ad pf) (ad lk) :=by
  unfold iV;rw[bt 148 8 la rfl,bt 8 0 fD rfl,List.drop_zero]
 rw[e1,e2]
theorem sw (h:iN T nm pf lk md sz=0) : (cZ T nm pf lk md sz).take 100=bF (ad nm) 100/\ ((cZ T nm pf lk md sz).drop 100).take 8=cL 7 md/\ ((cZ T nm pf lk md sz).drop 124).take 12=cL 11 sz/\
 (cZ T nm pf lk md sz).getD 156 0=T/\ ((cZ T nm pf lk md sz).drop 157).take 100=bF (ad lk) 100/\ ((cZ T nm pf lk md sz).drop 345).take 155=bF (ad pf) 155:=by
 obtain⟨F,hF,he⟩:=Da h;obtain⟨_,h2,h3,h4,_⟩:=cD.1 h;have l1:=bg _ _ (cX (k:=100) h2);have l2:=bg _ _ (cX (k:=100) h3);have l3:=bg _ _ (cX (k:=155) h4);have la:=fh (md:=md) (sz:=sz) (cX (k:=100) h2);have f7:=aU 7;have f11:=aU 11;have e1:∀X:List Int,gM (ad nm) md sz++X=bF (ad nm) 100++ (cL 7 md++ (cL 7 0++ (cL 7 0++ (cL 11 sz++ (cL 11 0++X))))) :=fun X=>by simp only[gM,List.append_assoc]
 have e2:iq T (ad pf) (ad lk) = [T] ++ (bF (ad lk) 100++ (oG++ (ao 32++ (ao 32++ (cL 7 0++ (cL 7 0++ (bF (ad pf) 155++ao 12))))))) :=rfl;rw[he];refine⟨?_,?_,?_,?_,?_,?_⟩
 ·rw[e1];exact fu l1
 ·rw[e1,bt 100 0 l1 rfl,List.drop_zero];exact fu (f7 md)
 ·rw[e1,bt 100 24 l1 rfl,bt 8 16 (f7 md) rfl,bt 8 8 (f7 0) rfl,bt 8 0 (f7 0) rfl,List.drop_zero];exact fu (f11 sz)
 ·rw[List.getD_eq_getElem?_getD,List.getElem?_append_right (by omega),List.getElem?_append_right (by omega),la,hF,e2];rfl
 ·rw[bt 148 9 la rfl,bt 8 1 hF rfl,e2,bt 1 0 rfl rfl,List.drop_zero];exact fu l2
 ·rw[bt 148 197 la rfl,bt 8 189 hF rfl,e2,bt 1 188 rfl rfl,bt 100 88 l2 rfl,bt 8 80 rfl rfl,bt 32 48 (aB 32) rfl,bt 32 16 (aB 32) rfl,bt 8 8 (f7 0) rfl,bt 8 0 (f7 0) rfl,List.drop_zero];exact fu l3
end
def dT (zs:List Int) :Int:=zs.getD 156 0
def xd (zs:List Int) :ByteArray:=strOfNums (nO (zs.take 100))
def xa (zs:List Int) :ByteArray:=strOfNums (nO ((zs.drop 157).take 100))
def xe (zs:List Int) :ByteArray:=strOfNums (nO ((zs.drop 345).take 155))
def xb (zs:List Int) :Int:=Bk ((zs.drop 100).take 8)
def xf (zs:List Int) :Int:=Bk ((zs.drop 124).take 12)
def qF (zs:List Int) :Prop:=pt (zs.take 100) =0/\pt ((zs.drop 157).take 100) =0/\pt ((zs.drop 345).take 155) =0/\Bj ((zs.drop 100).take 8) =0/\Bj ((zs.drop 124).take 12) =0
instance (zs:List Int) :Decidable (qF zs) :=by unfold qF;infer_instance
def DV (zs:List Int) :Prop:=qF zs/\iN (dT zs) (xd zs) (xe zs) (xa zs) (xb zs) (xf zs) =0/\cZ (dT zs) (xd zs) (xe zs) (xa zs) (xb zs) (xf zs) =zs
instance (zs:List Int) :Decidable (DV zs) :=by unfold DV;infer_instance
def lv (zs:List Int) :Int:=if zs.length≠512 then 2 else if zs≠bJ zs then 9 else if¬known (dT zs)then 8 else if DV zs then 0 else 6
theorem ki {s:ByteArray}{k:Nat}(hk:k<=256)(h:eT (ad s) k=0) :pt (bF (ad s) k) =0/\strOfNums (nO (bF (ad s) k)) =s:=by
 obtain⟨h1,_,h3,h4⟩:=fv.1 h;have hl:=bg (ad s) k (by omega);have ht:=vY k h3;have e:pt (bF (ad s) k) =0:=qE.2 ⟨by omega,by omega,by rw[ht];exact h3⟩;exact⟨e,by rw[CB e,ht,aJ]⟩
theorem yy {k:Nat}{n:Int}(h1:1<=k)(h2:k<=21)(h0:0<=n)(hm:n<=mx k) :Bj (cL k n) =0/\Bk (cL k n) =n:=by
 have hl:=aU k n;have ht: (cL k n).take ((cL k n).length- 1) =nZ k n:=by rw[hl,Nat.add_sub_cancel];unfold cL;rw[List.take_left' (dL k n)]
 have ok:sV (cL k n) :=by
  refine⟨?_,by rw[ht];exact xU k n⟩;rw[hl,Nat.add_sub_cancel,List.getD_eq_getElem?_getD];unfold cL;rw[List.getElem?_append_right (by rw[dL];exact aj),dL,Nat.sub_self];rfl
 have hb:¬((cL k n).length<2\/22< (cL k n).length) :=by omega
 exact⟨by unfold Bj;rw[if_neg hb,if_pos ok],by unfold Bk;rw[if_neg hb,if_pos ok,ht];exact BT k n h0 hm⟩
theorem Dk:mx 7=2097151:=by decide
theorem sO:mx 11=8589934591:=by decide
section
variable {T:Int} {nm pf lk:ByteArray} {md sz:Int}
theorem Aa (h:iN T nm pf lk md sz=0) :lv (cZ T nm pf lk md sz) =0/\dT (cZ T nm pf lk md sz) =T/\xd (cZ T nm pf lk md sz) =nm/\xe (cZ T nm pf lk md sz) =pf/\xa (cZ T nm pf lk md sz) =lk/\
 xb (cZ T nm pf lk md sz) =md/\xf (cZ T nm pf lk md sz) =sz:=by
 obtain⟨f1,f2,f3,f4,f5,f6⟩:=sw h;obtain⟨k1,k2,k3,k4,k5,k6⟩:=cD.1 h;have e1:dT (cZ T nm pf lk md sz) =T:=f4;have e2:xd (cZ T nm pf lk md sz) =nm:=by unfold xd;rw[f1];exact(ki (k:=100) (by decide) k2).2
 have e3:xe (cZ T nm pf lk md sz) =pf:=by unfold xe;rw[f6];exact(ki (k:=155) (by decide) k4).2
 have e4:xa (cZ T nm pf lk md sz) =lk:=by unfold xa;rw[f5];exact(ki (k:=100) (by decide) k3).2
 have hm:=Dk;have hs:=sO;have p1:=yy (k:=7) (n:=md) (by decide) (by decide) k5.1 (by omega);have p2:=yy (k:=11) (n:=sz) (by decide) (by decide) k6.1 (by omega);have e5:xb (cZ T nm pf lk md sz) =md:=by unfold xb;rw[f2];exact p1.2
 have e6:xf (cZ T nm pf lk md sz) =sz:=by unfold xf;rw[f3];exact p2.2
 have hf:qF (cZ T nm pf lk md sz) :=by
  unfold qF;rw[f1,f2,f3,f5,f6];exact⟨(ki (k:=100) (by decide) k2).1,(ki (k:=100) (by decide) k3).1,(ki (k:=155) (by decide) k4).1,p1.1,p2.1⟩
 refine⟨?_,e1,e2,e3,e4,e5,e6⟩;unfold lv;rw[if_neg (by rw[iP h];simp),if_neg (by rw[sy h];simp),if_neg (by rw[e1];simpa using k1),if_pos ⟨hf,by rw[e1,e2,e3,e4,e5,e6];exact⟨h,rfl⟩⟩]
end
end Ust
namespace Fit
open Go.Lib Go.RowKit Pxr Pnm
theorem yY (zs:List Int) : (strOfNums zs).size=zs.length:=by
 rw[Lib.size_eq,strOfNums_data,List.length_map]
theorem yn {e:fM}(h:Ok e) : (eZ e).nm.size<=100/\ (eZ e).pf.size<=155/\ (eZ e).lk.size<=100/\Ust.iN (eZ e).T (eZ e).nm (eZ e).pf (eZ e).lk (eZ e).md (eZ e).sz=0:=by
 have hp:=nh h.path;have h0:=ik (jh.1 h.path).2;have hs:=yS e.p
 have hN: (0:Int)∉dN (ad e.p)/\ (dN (ad e.p)).length<=100/\ (0:Int)∉dO (ad e.p)/\ (dO (ad e.p)).length<=155:=by
  rcases kE e.p with⟨_,a,b,c⟩|⟨_,_,_,d,e1,e2,_⟩|⟨_,a,b,_⟩
  ·rw[a,b];exact⟨h0,by rw[ah];exact c,by simp,by simp⟩
  ·refine⟨fun hm=>h0 (by rw[d];exact List.mem_append_right _ (List.mem_cons_of_mem _ hm)),e2,fun hm=>h0 (by rw[d];exact List.mem_append_left _ hm),e1⟩
  ·rw[a,b];exact⟨by simp,by simp,by simp,by simp⟩
 have hl: (eZ e).lk.size<=100/\ (0:Int)∉ad (eZ e).lk:=by
  show(if e.t.size<=100 then e.t else emp).size<=100/\ (0:Int)∉ad (if e.t.size<=100 then e.t else emp);by_cases hc:e.t.size<=100
  ·rw[if_pos hc];refine⟨hc,?_⟩;rcases(jT h.tg).2.2 with ht|ht
   ·rw[ht];decide
   ·intro hm;unfold eo at ht;rw[if_neg (by omega),if_pos (.inr hm)]at ht
    cases ht
  ·rw[if_neg hc];decide
 obtain⟨s0,s1,_⟩:=gr h.sz;refine⟨by show(strOfNums (dN (ad e.p))).size<=100;rw[yY];exact hN.2.1,by show(strOfNums (dO (ad e.p))).size<=155;rw[yY];exact hN.2.2.2,hl.1,Ust.cD.2 ⟨?_,?_,?_,?_,⟨h.m0,h.m1⟩,?_⟩⟩
 ·have:=zy h.k0 h.k4;show Ust.known (we e.k);unfold Ust.known;omega
 ·refine Cst.fv.2 ⟨by decide,by decide,?_,?_⟩
  ·show(0:Int)∉ad (strOfNums (dN (ad e.p)));rw[hs.2];exact hN.1
  ·show((ad (strOfNums (dN (ad e.p)))).length:Int)<=100;rw[hs.2];have:=hN.2.1;omega
 ·refine Cst.fv.2 ⟨by decide,by decide,hl.2,?_⟩;rw[ah];have:=hl.1;omega
 ·refine Cst.fv.2 ⟨by decide,by decide,?_,?_⟩
  ·show(0:Int)∉ad (strOfNums (dO (ad e.p)));rw[hs.1];exact hN.2.2.1
  ·show((ad (strOfNums (dO (ad e.p)))).length:Int)<=155;rw[hs.1];have:=hN.2.2.2;omega
 ·show 0<= (if e.s<=8589934591 then e.s else 0)/\ (if e.s<=8589934591 then e.s else 0)<=8589934591
  split<;>omega
theorem uA {e:fM}(h:Ok e) :∀r∈jK e,r.2.size<=65536:=fun r hr=> (lG (yl h r hr)).val
end Fit
namespace Pxr
open Go.Lib Go.RowKit
def Gf (c:Int)(zs:List Int) :List Int:=zs.takeWhile (fun z=>z !=c)
def Fc (zs:List Int) :List Int:=Gf 32 zs
def Cs (zs:List Int) :Nat:=dw (Fc zs)
def Fz (zs:List Int) :List Int:= (zs.take (Cs zs- 1)).drop ((Fc zs).length+1)
def FA (zs:List Int) :List Int:=Gf 61 (Fz zs)
def Gq (zs:List Int) :List Int:= (Fz zs).drop ((FA zs).length+1)
def FC (zs:List Int) :Rec:= (strOfNums (FA zs),strOfNums (Gq zs))
def Gp (zs:List Int) :Int:=
 if(32:Int)∉zs\/ch (Fc zs) =false\/Cs zs=0\/999999<Cs zs then 6
 else if zs.length<Cs zs then 5
 else if Cs zs< (Fc zs).length+2\/zs.getD (Cs zs- 1) 0≠10\/ (61:Int)∉Fz zs\/rX ((FA zs).length+ (Gq zs).length+3)≠Cs zs then 6 else 0
def Gk:Nat->List Rec->Nat->List Int->List Rec×Nat×Int
 |0,out,at_,_=> (out,at_,0)
 |f+1,out,at_,zs=>
  if zs.length<=at_ then(out,zs.length,0)
  else if Gp (zs.drop at_)≠0 then([],at_,Gp (zs.drop at_))
  else if dV out (FC (zs.drop at_))≠0 then([],at_,dV out (FC (zs.drop at_)))
  else Gk f (out++ [FC (zs.drop at_)]) (at_+Cs (zs.drop at_)) zs
def dt (zs:List Int) :List Rec×Nat×Int:=if 262144<zs.length then([],0,7)else Gk (zs.length+1) [] 0 zs
end Pxr
section
open Go.RowKit
theorem Ct:kN Tryz.prog 5 .u8 1:=Ci (by kernel_rfl)
theorem Dd:kN Tryz.prog 3 .i64 8:=Ci (by kernel_rfl)
def cY (cs:List Int)(r:Nat) :Int:=if cs.length=0 then 1048576 else max (cs.getD (r % cs.length) 0) 1
theorem gz (cs:List Int)(r:Nat) :1<=cY cs r:=by unfold cY;split<;>omega
def wv (cs:List Int)(r:Nat) :Nat:=if cs.length=0 then 0 else r % cs.length
end
section
def AV (Z:List Int)(o:Nat)(err:Int) :List Int:=if err=0/\o+512<=Z.length then(Z.drop o).take 512 else []
def jF (Z:List Int)(E:Int)(o:Nat)(err:Int) :Int:=if err≠0 then err else if o+512<=Z.length then 0 else if E=4/\o<Z.length then 5 else E
def rp (Z:List Int)(o:Nat)(err:Int) :Nat:=if err≠0 then o else if o+512<=Z.length then o+512 else Z.length
theorem Dl {Z:List Int}{E:Int}{o:Nat}{err:Int}(h:err≠0) :AV Z o err= []/\jF Z E o err=err/\rp Z o err=o:=by
 unfold AV jF rp;rw[if_neg (fun h'=>h h'.1),if_pos h,if_pos h];exact⟨rfl,rfl,rfl⟩
theorem uu {Z:List Int}{E:Int}{o:Nat}(h:o+512<=Z.length) :AV Z o 0= (Z.drop o).take 512/\jF Z E o 0=0/\rp Z o 0=o+512:=by
 unfold AV jF rp;rw[if_pos ⟨rfl,h⟩,if_neg (c:= (0:Int)≠0) (fun h=>h rfl),if_pos h,if_neg (c:= (0:Int)≠0) (fun h=>h rfl),if_pos h];exact⟨rfl,rfl,rfl⟩
theorem pQ {Z:List Int}{E:Int}{o:Nat}(h:¬o+512<=Z.length) :AV Z o 0= []/\jF Z E o 0= (if E=4/\o<Z.length then 5 else E)/\rp Z o 0=Z.length:=by
 unfold AV jF rp;rw[if_neg (fun h'=>h h'.2),if_neg (c:= (0:Int)≠0) (fun h=>h rfl),if_neg h,if_neg (c:= (0:Int)≠0) (fun h=>h rfl),if_neg h];exact⟨rfl,rfl,rfl⟩
def fK (s:Nat) :Nat:= (s+511) /512
theorem tF (s:Nat) :512*fK s<s+512:=by unfold fK;omega
def rD (Z:List Int)(o:Nat)(err:Int)(n:Nat) :Prop:=n=0\/ (err=0/\o+512*n<=Z.length)
instance (Z:List Int) (o:Nat) (err:Int) (n:Nat) :Decidable (rD Z o err n) :=by unfold rD;infer_instance
def Fw (Z:List Int)(E:Int)(o:Nat)(err:Int)(n:Nat) :Int:=if rD Z o err n then 0 else if err≠0 then err else if E=4/\ (Z.length- o) % 512≠0 then 5 else E
def Gl (Z:List Int)(o:Nat)(err:Int)(n:Nat) :Nat:=if rD Z o err n then o+512*n else if err≠0 then o else Z.length
def Gz (Z:List Int)(E:Int)(o:Nat)(err:Int)(n:Nat) :Int:=if rD Z o err n then err else Fw Z E o err n
def qu (P:List Int) :Nat:=P.findIdx (fun z=>z !=0)
theorem sQ (P:List Int) :qu P<=P.length:=List.findIdx_le_length
theorem xS {P:List Int}(h:qu P<P.length) :P.getD (qu P) 0≠0:=by
 have h':=List.findIdx_getElem (p:=fun z=>z !=0) (xs:=P) (w:=h);rw[List.getD_eq_getElem?_getD,List.getElem?_eq_getElem h];intro h0;have h1:P[qu P] =0:=h0;have h2: (P[qu P] !=0) =true:=h';rw[h1]at h2;exact absurd h2 (by decide)
theorem rq {P:List Int}{i:Nat}(h:i<qu P) :P.getD i 0=0:=by
 have hl:i<P.length:=Nat.lt_of_lt_of_le h (sQ P);have h':=List.not_of_lt_findIdx (p:=fun z=>z !=0) (xs:=P) h;rw[List.getD_eq_getElem?_getD,List.getElem?_eq_getElem hl]
 simpa using h'
def nG (z:Int) :Prop:=z<0\/1099511627776<z
instance (z:Int) :Decidable (nG z) :=by unfold nG;infer_instance
def nj (Z:List Int)(o s:Nat) :List Int:= ((Z.drop o).take (512*fK s)).drop s
def Fb (Z:List Int)(E:Int)(o:Nat)(err z:Int) :Int:=
 if nG z then 3 else if rD Z o err (fK z.toNat)then(if qu (nj Z o z.toNat) < (nj Z o z.toNat).length then 10 else 0)else if Fw Z E o err (fK z.toNat) =4 then 5 else Fw Z E o err (fK z.toNat)
def Gn (Z:List Int)(o:Nat)(err z:Int) :Nat:=
 if nG z then o else if rD Z o err (fK z.toNat)/\qu (nj Z o z.toNat) < (nj Z o z.toNat).length then o+ (z.toNat+qu (nj Z o z.toNat))else Gl Z o err (fK z.toNat)
def Gm (Z:List Int)(o:Nat)(err z:Int) :List Int:=
 if nG z then []else if rD Z o err (fK z.toNat)/\¬qu (nj Z o z.toNat) < (nj Z o z.toNat).length then(Z.drop o).take z.toNat else []
def Fx (Z:List Int)(o:Nat)(err z:Int) :Nat:=if nG z then o else Gl Z o err (fK z.toNat)
def GH (Z:List Int)(E:Int)(o:Nat)(err z:Int) :Int:=if nG z then err else Gz Z E o err (fK z.toNat)
def full (F:Int)(L:Nat) :Prop:=0<=F/\F=L
instance (F:Int) (L:Nat) :Decidable (full F L) :=by unfold full;infer_instance
def kM (cs:List Int)(F:Int)(L r m:Nat) :Nat:=if m=0\/full F L then 0 else(min (min (m:Int) (cY cs r)) (if 0<=F then F- L else m)).toNat
def zB (F:Int)(L m:Nat) :Int:=if m=0 then 0 else if full F L then 11 else 0
def DD (F:Int)(L r m:Nat) :Nat:=if m=0\/full F L then r else r+1
theorem qp (cs:List Int)(F:Int)(L r m:Nat) :kM cs F L r m<=m:=by unfold kM;split<;>omega
theorem lN {cs:List Int}{F:Int}{L r m:Nat}(hm:m≠0)(hf:¬full F L)(hL:0<=F-> (L:Int)<=F) :1<=kM cs F L r m:=by
 have:=gz cs r;unfold full at hf;unfold kM;rw[if_neg (by unfold full;omega)]
 split<;>omega
theorem lM {cs:List Int}{F:Int}{L r m:Nat}(h0:0<=F)(hL: (L:Int)<=F) : ((L+kM cs F L r m:Nat) :Int)<=F:=by
 unfold kM
 split
 ·omega
 ·omega
def df (F:Int)(L m:Nat) :Nat:=if 0<=F/\F- L<m then(F- L).toNat else m
def eg (F:Int)(L m:Nat) :Int:=if 0<=F/\F- L<m then 11 else 0
def iM (cs:List Int)(F:Int) :Nat->Nat->Nat->Nat->Nat
 |0,_,r,_=>r
 |f+1,L,r,m=>if m=0\/full F L then r else iM cs F f (L+kM cs F L r m) (r+1) (m- kM cs F L r m)
theorem ke (cs:List Int)(F:Int) :∀(f L r m:Nat),m<=f-> (0<=F-> (L:Int)<=F)->iM cs F f L r m=iM cs F m L r m
 |0,L,r,m,h,_=>by obtain rfl:m=0:=by omega
                  rfl
 |f+1,L,r,0,_,_=>by simp[iM]
 |f+1,L,r,m+1,h,hL=>by
  by_cases hf:full F L
  ·simp[iM,hf]
  ·have hk:=lN (cs:=cs) (r:=r) (m:=m+1) (by omega) hf hL;have hle:=qp cs F L r (m+1);have hL':0<=F-> ((L+kM cs F L r (m+1) :Nat) :Int)<=F:=fun h0=>lM h0 (hL h0);simp only[iM];have hn:¬(m+1=0\/full F L) :=fun h=>h.elim (by omega) hf;rw[if_neg hn,if_neg hn,ke cs F f _ _ _ (by omega) hL',ke cs F m _ _ _ (by omega) hL']
 termination_by f=>f
theorem uS {cs:List Int}{F:Int}{L r m:Nat}(hm:m≠0)(hf:¬full F L)(hL:0<=F-> (L:Int)<=F) :
 iM cs F m L r m=iM cs F (m- kM cs F L r m) (L+kM cs F L r m) (r+1) (m- kM cs F L r m) :=by
 have hk:=lN (cs:=cs) (r:=r) hm hf hL;have hL':0<=F-> ((L+kM cs F L r m:Nat) :Int)<=F:=fun h0=>lM h0 (hL h0);obtain⟨f,rfl⟩:∃f,m=f+1:=⟨m- 1,by omega⟩
 conv=>lhs;simp only[iM]
 rw[if_neg (fun h=>h.elim (by omega) hf),ke cs F f _ _ _ (by omega) hL']
theorem uT (cs:List Int){F:Int}{L r m:Nat}(h:m=0\/full F L) :iM cs F m L r m=r:=by
 cases m with
 |zero=>rfl
 |succ m=>simp only[iM];rw[if_pos h]
theorem uR {cs:List Int}{F:Int}{L r m:Nat}(hL:0<=F-> (L:Int)<=F) :
 df F L m=kM cs F L r m+df F (L+kM cs F L r m) (m- kM cs F L r m)/\eg F (L+kM cs F L r m) (m- kM cs F L r m) =eg F L m:=by
 have h1:=qp cs F L r m;have h2:0<=F-> ((L+kM cs F L r m:Nat) :Int)<=F:=fun h0=>lM h0 (hL h0);generalize kM cs F L r m=k at*;unfold df eg;constructor
 ·split<;>split<;>omega
 ·congr 1
  apply propext;omega
theorem zK (F:Int)(L m:Nat)(hL:0<=F-> (L:Int)<=F) :df F L m<=m/\ (0<=F-> ((L+df F L m:Nat) :Int)<=F) :=by
 unfold df
 split<;>omega
def se (F:Int)(L n:Nat)(err:Int) :Nat:=if err=0 then df F L n else 0
def sd (F:Int)(L n:Nat)(err:Int) :Int:=if err=0 then eg F L n else err
def bV (o:Nat) :Nat:= (512- o % 512) % 512
theorem ij (n:Nat) :n+bV n=512*fK n:=by unfold bV fK;omega
theorem AY {o n:Nat}(h:o % 512=0) :bV (o+n) =bV n:=by unfold bV;omega
end
namespace fQ
open Go.Lib Go.RowKit Go.Proofs.YtcjagakckffkiaaGreatDoor.Fit Pxr Pnm
def ez:fM:=⟨0,emp,0,emp,0⟩
abbrev nY:ByteArray:= {data:= #[112,97,120]}
def jZ (h:Hd) :List Int:=Ust.cZ h.T h.nm h.pf h.lk h.md h.sz
def Fo (h:Hd) :Int:=Ust.iN h.T h.nm h.pf h.lk h.md h.sz
def hX (n:Nat) :Hd:=⟨120,nY,emp,emp,0,n⟩
def iT (l:List Int) :List Int:=l++ao (bV l.length)
def CQ (e:fM) :List Int:=if(jK e).length=0 then []else jZ (hX (fJ (jK e)).length) ++iT (fJ (jK e))
def nP (e:fM) :List Int:=if dn e≠0 then []else CQ e++jZ (eZ e)
structure DR where
 x:fM
 p:Nat
 e:Int
 o:Nat
 s:Int
def Au (B:List Int) :Hd:=⟨Ust.dT B,Ust.xd B,Ust.xe B,Ust.xa B,Ust.xb B,Ust.xf B⟩
def Em (h:Hd) :Prop:=h.nm=nY/\h.pf=emp/\h.lk=emp/\h.md=0/\1<=h.sz/\h.sz<=262144
def ee (B:List Int) :Prop:=∀z∈B,z=0
open Classical in
noncomputable def Gi (h:Hd)(rs:List Rec)(o last o':Nat) :DR:=if Fu h rs then⟨zR h rs,o,0,o',0⟩else⟨ez,last,if rs.length=0 then 6 else 17,o',0⟩
noncomputable def Gu (Z:List Int)(o:Nat)(rs:List Rec)(o2:Nat) :DR:=
 if Ust.lv ((Z.drop o2).take 512)≠0 then⟨ez,o2,Ust.lv ((Z.drop o2).take 512),o2+512,0⟩else Gi (Au ((Z.drop o2).take 512)) rs o o2 (o2+512)
noncomputable def Gt (Z:List Int)(E:Int)(o:Nat)(P:List Rec×Nat×Int)(o2:Nat) :DR:=
 if P.2.2≠0 then⟨ez,o+512+P.2.1,P.2.2,o2,0⟩else if jF Z E o2 0≠0 then⟨ez,rp Z o2 0,if jF Z E o2 0=4 then 5 else jF Z E o2 0,rp Z o2 0,jF Z E o2 0⟩else Gu Z o P.1 o2
open Classical in
noncomputable def DN (Z:List Int)(E:Int)(o:Nat)(h:Hd) :DR:=
 if¬Em h then⟨ez,o,17,o+512,0⟩else if Fb Z E (o+512) 0 h.sz≠0 then⟨ez,Gn Z (o+512) 0 h.sz,Fb Z E (o+512) 0 h.sz,Fx Z (o+512) 0 h.sz,GH Z E (o+512) 0 h.sz⟩
  else Gt Z E o (dt (Gm Z (o+512) 0 h.sz)) (Fx Z (o+512) 0 h.sz)
open Classical in
noncomputable def DM (Z:List Int)(E:Int)(o:Nat)(B:List Int) :DR:=
 if ee B then⟨ez,o,18,o+512,0⟩else if Ust.lv B≠0 then⟨ez,o,Ust.lv B,o+512,0⟩else if Ust.dT B=120 then DN Z E o (Au B)else Gi (Au B) [] o o (o+512)
noncomputable def lE (Z:List Int)(E:Int)(o:Nat)(err:Int) :DR:=
 if jF Z E o err≠0 then⟨ez,rp Z o err,jF Z E o err,rp Z o err,jF Z E o err⟩else DM Z E o ((Z.drop o).take 512)
theorem mB {n:Nat}(h:n<=8589934591) :Fo (hX n) =0:=by
 refine Ust.cD.2 ⟨.inr (.inr (.inr (.inr rfl))),?_,?_,?_,⟨Int.le_refl _,by show(0:Int)<=4095;decide⟩,?_⟩
 ·show Cst.eT (ad nY) 100=0;decide
 ·show Cst.eT (ad emp) 100=0;decide
 ·show Cst.eT (ad emp) 155=0;decide
 ·show 0<= (n:Int)/\ (n:Int)<=8589934591;omega
theorem gA {h:Hd}(hc:Fo h=0) :Ust.lv (jZ h) =0/\Au (jZ h) =h/\ (jZ h).length=512/\¬ee (jZ h)/\Bytes (jZ h)/\Ust.known h.T:=by
 obtain⟨a0,a1,a2,a3,a4,a5,a6⟩:=Ust.Aa hc;have hk:= (Ust.cD.1 hc).1;have hl: (jZ h).length=512:=Ust.iP hc;refine⟨a0,?_,hl,?_,Ust.oC (Ust.eB hk) _ _ _ _ _,hk⟩
 ·show Hd.mk (Ust.dT _) (Ust.xd _) (Ust.xe _) (Ust.xa _) (Ust.xb _) (Ust.xf _) =h;unfold jZ;rw[a1,a2,a3,a4,a5,a6]
 ·intro hz;have h1: (jZ h).getD 156 0=h.T:=a1;have h2:=hz _ (List.getElem_mem (l:=jZ h) (n:=156) (by omega));rw[List.getD_eq_getElem?_getD,List.getElem?_eq_getElem (by omega)]at h1;have h3:h.T=0:=h1.symm.trans h2;unfold Ust.known at hk;omega
theorem uz {e:fM}(h:dn e=0) :Fo (eZ e) =0:= (yn (fw.1 h)).2.2.2
theorem mu {e:fM}(h:dn e=0) : (fJ (jK e)).length<=196665:=by
 have:=sF (pU (fw.1 h)) (jK e).length;rw[List.take_length]at this;exact this
theorem CY (r:Rec) :1<= (pw r).length:=by unfold pw;simp only[List.length_append,List.length_singleton];omega
theorem xu:∀{l:List Rec},l.length≠0->1<= (fJ l).length
 | [],h=>absurd rfl h
 |r::l,_=>by rw[qQ,List.length_append];have:=CY r;omega
theorem xZ (l:List Int) : (iT l).length=512*fK l.length:=by unfold iT;rw[List.length_append,aB];exact ij _
theorem iO {e:fM}(h:dn e=0) : (nP e).length= (CQ e).length+512/\ (CQ e).length=if(jK e).length=0 then 0 else 512+512*fK (fJ (jK e)).length:=by
 constructor
 ·unfold nP;rw[if_neg (by simpa using h),List.length_append,(gA (uz h)).2.2.1]
 ·unfold CQ
  split
  ·rfl
  ·rw[List.length_append,xZ,(gA (mB (by have:=mu h;omega))).2.2.1]
theorem mq (rs:List Rec) :Bytes (fJ rs) :=by
 intro z hz;unfold fJ at hz;obtain⟨l,hl,hz⟩:=List.mem_flatten.1 hz;obtain⟨r,_,rfl⟩:=List.mem_map.1 hl;unfold pw at hz;simp only[List.mem_append,List.mem_singleton]at hz
 have hd:∀z∈cy (kd r),0<=z/\z<=255:=fun z hz=>by
  have:= (List.all_eq_true.1 (fZ (kd r))) z hz;rw[dD]at this;omega
 rcases hz with((((hz|rfl) |hz) |rfl) |hz) |rfl
 ·exact hd z hz
 ·decide
 ·exact cG _ z hz
 ·decide
 ·exact cG _ z hz
 ·decide
theorem lZ (e:fM) :Bytes (nP e) :=by
 unfold nP
 split
 ·exact fun z hz=>by simp at hz
 ·rename_i h;have h:dn e=0:=Decidable.byContradiction h;refine Bytes.append ?_ (gA (uz h)).2.2.2.2.1;unfold CQ
  split
  ·exact fun z hz=>by simp at hz
  ·exact(gA (mB (by have:=mu h;omega))).2.2.2.2.1.append ((mq _).append (cq _))
end fQ
end Go.Proofs.YtcjagakckffkiaaGreatDoor
