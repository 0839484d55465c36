import Derived.Test.YtcjagakckffkiaaGreatDoorS21
set_option maxHeartbeats 16000000
set_option maxRecDepth 100000
namespace Go.Proofs.YtcjagakckffkiaaGreatDoor
namespace gR
open Go.RowKit
open Oct
theorem Bv (a:Option Addr)(cap:Nat)(zs:List Int)(w:World)(v:Int)(hl:zs.length=512)(hb:BytesIn w a zs)(hz:Bytes zs)(hc:512<=cap)(hv: (zs=bJ zs/\v=0)\/ (¬zs=bJ zs/\v=9)) :
 Calls Tryz.prog 127 #[.slice a 512 cap] w fun e w'=>e= .returned (.int .i64 v)/\Below w.heap.size w w':=by
 have HL:=aa hl;clear hl;have HB:=aa hb;clear hb;have HZ:=aa hz;clear hz;obtain⟨S,hS⟩:=named (strOfNums zs);go_enter Tryz.func127,Tryz.ntmps127;go_wp2_with fail;refine(rN a cap zs _ HL.out HB.out hc).mono ?_;rintro e w1 ⟨b1,c1,rfl,hr1,hlt1,hb1⟩;have B1:=aa hb1;clear hb1;have hc2:=aQ (P:=Tryz.prog) (w:=w1) Tryz.underlying25 Tryz.underlying5 Tryz.underlying9 (HB.out.below B1.out) 512 cap HL.out;have hc1:=dM (P:=Tryz.prog) (w:=w1) Tryz.underlying25 Tryz.underlying5 Tryz.underlying9 hr1 512 c1 (dQ HL.out);clear hr1 hlt1;rcases hv with⟨hv,rfl⟩|⟨hv,rfl⟩
 ·rw[<- hv,<- hS.out]at hc1;rw[<- hS.out]at hc2;clear hv;go_wp2;go_ret;exact⟨rfl,B1.out⟩
 ·obtain⟨S2,hS2⟩:=named (strOfNums (bJ zs));have hne:¬S2=S:=by rw[hS.out,hS2.out];exact yX (fC HZ.out) HZ.out (fun e=>hv e.symm)
  have hnl: (S2.toList==S.toList) =false:=by
   rw[beq_eq_false_iff_ne]
   exact fun e=>hne (by
    apply ByteArray.ext;apply Array.ext';rw[ByteArray.toList_eq,ByteArray.toList_eq]at e;exact e)
  clear hne;rw[<- hS2.out]at hc1;rw[<- hS.out]at hc2;clear hv;go_wp2;go_ret;exact⟨rfl,B1.out⟩
end gR
namespace Cst
open Go.RowKit
theorem iW (a:Option Addr)(len cap:Nat)(w:World)(h:len<1\/256<len)(hm:len<=maxLen) :
 Calls Tryz.prog 129 #[.slice a len cap] w fun e w'=>e= .returned (.tuple #[.string {data:= #[]},.int .i64 2])/\w=w':=by
 unfold maxLen at hm;by_cases h1:len<1
 ·have h1': (len:Int) <1:=by omega
  clear h;go_enter Tryz.func129,Tryz.ntmps129;go_wp2;go_ret2;exact⟨rfl,rfl⟩
 ·have h1':¬(len:Int) <1:=by omega
  have h2': (256:Int) <len:=by omega
  clear h;go_enter Tryz.func129,Tryz.ntmps129;go_wp2;go_ret2;exact⟨rfl,rfl⟩
theorem tc (b off cap:Nat)(zs:List Int)(w:World)(h:aO w b off zs)(h0:1<=zs.length)(h1:zs.length<=256)(hl:zs.length<=cap)(hm:cap<=maxLen) :
 Calls Tryz.prog 129 #[.slice (some ⟨b,off,none⟩) zs.length cap] w fun e w'=>e= .returned (.tuple #[.string (strOfNums (nO zs)),.int .i64 (pt zs)])/\w=w':=by
 have H:=aa h;clear h;unfold maxLen at hm;have h2:¬(zs.length:Int) <1:=by omega
 have h3:¬(256:Int) <zs.length:=by omega
 have e0:¬(zs.length<1\/256<zs.length) :=by omega
 have HS:Hid ((0:Int)∈bW zs->strOfNums (nO zs) = {data:= #[]}/\pt zs=6) :=fun h=>
  ⟨by unfold nO;rw[if_neg e0,if_pos h];rfl,by unfold pt;rw[if_neg e0,if_pos h]⟩
 have HT:Hid ((0:Int)∉bW zs->nO zs=bW zs/\pt zs=0) :=fun h=>
  ⟨by unfold nO;rw[if_neg e0,if_neg h],by unfold pt;rw[if_neg e0,if_neg h]⟩
 clear e0;go_enter Tryz.func129,Tryz.ntmps129;go_wp2;go_loop [4] (fun t=>∃j:Nat,j<=zs.length/\t= .int .i64 j/\bW (zs.take j) =bW zs) (fun t=> (intOf t).toNat)
 case atStart=>exact⟨zs.length,aj,rfl,by rw[List.take_length]⟩
 case round=>
  obtain⟨j,hj,rfl,ht⟩:=hrel;have HQ:=aa ht;clear ht;by_cases hstop:∃k,j=k+1/\zs.getD k 0=0
  ·obtain⟨k,rfl,hk0⟩:=hstop;obtain⟨d,hd,d2,d3,hc⟩:=H.out.get k (by omega);obtain rfl:d=0:=hd.trans hk0
   have HN:Hid (bW (zs.take k) =bW zs) :=by
    show _=_;rw[<- HQ.out,gK (by omega),hk0,eW]
   clear hd hk0;go_wp2
   go_round
   case rel=>exact⟨k,by omega,by go_num,HN.out⟩
   case measure=>simp[intOf]
  ·have HE:Hid (zs.take j=bW zs/\ (bW zs).length=j) :=by
    have e:zs.take j=bW zs:=by
     rw[<- HQ.out];rcases j with _|k
     ·rfl
     ·rw[gK (by omega),iI];exact fun h=>hstop ⟨k,rfl,h⟩
    refine⟨e,?_⟩;rw[<- e,List.length_take];omega
   have HX:Hid (∀k,j=k+1-> (zs.getD k 0==0) =false) :=fun k hk=>by
    have:zs.getD k 0≠0:=fun h=>hstop ⟨k,hk,h⟩
    simpa using this
   clear hstop HQ;rcases j with _|k
   ·have hf:Hid ((0:Int)∉bW zs) :=by show _∉_;rw[<- HE.out.1];simp
    have hc:=aQ (P:=Tryz.prog) (w:=w) Tryz.underlying25 Tryz.underlying5 Tryz.underlying9 (a:=some ⟨b,off,none⟩) (zs:= []) (.inl rfl) 0 cap rfl;go_wp2;go_loop [5] (fun i=>i= .int .i64 0) (fun _=>0)
    case atStart=>rfl
    case round=>
     subst hrel;go_wp2;go_ret2;refine⟨?_,rfl⟩;rw[(HT.out hf.out).1,(HT.out hf.out).2,<- HE.out.1];rfl
   ·obtain⟨d,hd,d2,d3,hc⟩:=H.out.get k (by omega);have bX: (d==0) =false:=by rw[hd];exact HX.out k rfl
    have HD:=aa hd;clear hd;go_wp2
    have hbt:Hid (BytesIn w (some ⟨b,off,none⟩) (bW zs)) :=by
     have hlt:b<w.heap.size:=by
      have:=H.out.1 0 h0;rcases Nat.lt_or_ge b w.heap.size with h|h
      ·exact h
      ·rw[World.cell?]at this;simp[Array.getElem?_eq_none h]at this
     exact .inr ⟨b,off,rfl,hlt,H.out.trim⟩
    clear hc bX d2 d3;go_loop [5] (fun i=>∃l:Nat,l<=k+1/\i= .int .i64 l/\ (0:Int)∉zs.take l) (fun i=>k+1- (intOf i).toNat)
    case atStart=>exact⟨0,Nat.zero_le _,rfl,by simp⟩
    case round=>
     obtain⟨l,hl',rfl,hnz⟩:=hrel;have HNZ:=aa hnz;clear hnz;by_cases hlt:l<k+1
     ·obtain⟨x,hx,x2,x3,hcx⟩:=H.out.get l (by omega);have HXX:=aa hx;clear hx;have hlt': (l:Int) < (k:Int) +1:=by omega
      by_cases hx0:x=0
      ·subst hx0
       have hin:Hid ((0:Int)∈bW zs) :=by
        show _∈_;rw[<- HE.out.1,HXX.out,List.getD_eq_getElem?_getD,List.getElem?_eq_getElem (by omega)];exact List.mem_take_iff_getElem.2 ⟨l,by omega,rfl⟩
       go_wp2;go_ret2;exact⟨by rw[(HS.out hin.out).1,(HS.out hin.out).2];rfl,rfl⟩
      ·have hx0': (x==0) =false:=by simpa using hx0
       have HNN:Hid ((0:Int)∉zs.take (l+1)) :=by
        show _∉_;rw[gK (by omega),<- HXX.out];intro h;rcases List.mem_append.1 h with h|h
        ·exact HNZ.out h
        ·exact hx0 (List.mem_singleton.1 h).symm
       clear hx0;go_wp2
       go_round
       case rel=>exact⟨l+1,by omega,by go_num,HNN.out⟩
       case measure=>simp[intOf];omega
     ·obtain rfl:l=k+1:=by omega
      have hf:Hid ((0:Int)∉bW zs) :=by show _∉_;rw[<- HE.out.1];exact HNZ.out
      have hcv:=aQ (P:=Tryz.prog) Tryz.underlying25 Tryz.underlying5 Tryz.underlying9 hbt.out (k+1) cap HE.out.2;go_wp2;go_ret2;exact⟨by rw[(HT.out hf.out).1,(HT.out hf.out).2];rfl,rfl⟩
theorem ft (a:Option Addr)(len cap:Nat)(zs:List Int)(w:World)(h:BytesIn w a zs)(hz:zs.length=len)(hl:len<=cap)(hm:cap<=maxLen) :
 Calls Tryz.prog 129 #[.slice a len cap] w fun e w'=>e= .returned (.tuple #[.string (strOfNums (nO zs)),.int .i64 (pt zs)])/\w=w':=by
 subst hz;by_cases h1:zs.length<1\/256<zs.length
 ·have e1:nO zs= [] :=by unfold nO;rw[if_pos h1]
  have e2:pt zs=2:=by unfold pt;rw[if_pos h1]
  rw[e1,e2];exact iW a _ cap w h1 (Nat.le_trans hl hm)
 ·rcases h with h|⟨b,off,rfl,_,hr⟩
  ·rw[h]at h1;simp at h1
  ·exact tc b off cap zs w hr (by omega) (by omega) hl hm
end Cst
namespace Oct
open Go.RowKit
theorem iW (a:Option Addr)(len cap:Nat)(w:World)(h:len<2\/22<len)(hm:len<=maxLen) :
 Calls Tryz.prog 130 #[.slice a len cap] w fun e w'=>e= .returned (.tuple #[.int .i64 0,.int .i64 2])/\w=w':=by
 unfold maxLen at hm;by_cases h1:len<2
 ·have h1': (len:Int) <2:=by omega
  clear h;go_enter Tryz.func130,Tryz.ntmps130;go_wp2;go_ret2;exact⟨rfl,rfl⟩
 ·have h1':¬(len:Int) <2:=by omega
  have h2': (22:Int) <len:=by omega
  clear h;go_enter Tryz.func130,Tryz.ntmps130;go_wp2;go_ret2;exact⟨rfl,rfl⟩
theorem pd (x:Int)(h0:0<=x- 48)(h1:x- 48<=9223372036854775807) :wrap64 (wrap64 x- 48) =x- 48:=by unfold wrap64;omega
theorem vP (b off m cap:Nat)(zs:List Int)(w:World)(hz:zs.length=m+1)(h1:1<=m)(h2:m<=21)(hr:aO w b off zs)(hl:zs.getD m 0=0)(ho:nQ (zs.take m)) :
 Calls Tryz.prog 130 #[.slice (some ⟨b,off,none⟩) (m+1) cap] w fun e w'=>e= .returned (.tuple #[.int .i64 (val (zs.take m)),.int .i64 0])/\w=w':=by
 have HR:=aa hr;have HO:=aa ho;have HZ:=aa hz;have HL:=aa hl;have h3:¬(m:Int) +1<2:=by omega
 have h4:¬22< (m:Int) +1:=by omega
 clear hl hr hz ho;go_enter Tryz.func130,Tryz.ntmps130;go_wp2;go_loop [4,5] (fun t i=>∃j:Nat,j<=m+1/\i= .int .i64 j/\t= .int .i64 (val (zs.take (min j m)))) (fun _ i=>m+1- (intOf i).toNat)
 case atStart=>exact⟨0,Nat.zero_le _,rfl,by rw[Nat.zero_min];rfl⟩
 case round=>
  obtain⟨j,hj,rfl,rfl⟩:=hrel;by_cases hlt:j<m
  ·obtain⟨d,hd,d2,d3,hcj⟩:=HR.out.get j (by have:=HZ.out;omega);rw[Nat.min_eq_left (by omega:j<=m)]
   have HV:Hid (val (zs.take (min (j+1) m)) =8*val (zs.take j) +d- 48) :=by
    show _=_;rw[Nat.min_eq_left (by omega:j+1<=m),eE (by have:=HZ.out;omega),nJ,hd];omega
   have hdd:48<=d/\d<=55:=by
    apply HO.out;rw[hd,List.mem_take_iff_getElem];have:=HZ.out;exact⟨j,by omega,by simp[List.getD_eq_getElem?_getD,show j<zs.length by omega]⟩
   obtain⟨d4,d5⟩:=hdd
   have hb:=tt j (zs.take j) (by have:=HZ.out;rw[List.length_take];omega) (fun x hx=>HO.out x (by
    rw[List.mem_take_iff_getElem]at hx⊢;obtain⟨i,hi,rfl⟩:=hx;exact⟨i,by omega,rfl⟩))
   obtain⟨b0,b1⟩:=hb;have b2:=jB (k:=j) (by omega);have b3:val (zs.take j)<=1152921504606846975:=Int.le_trans b1 b2;have d6:¬d<48:=by omega
   have d7:¬55<d:=by omega
   have e1: ((j:Int) == (m:Int)) =false:=by simp;omega
   have e2: (j:Int) < (m:Int) +1:=by omega
   clear b1 b2 hd d2 d3;go_wp2
   go_round
   case rel=>exact⟨j+1,by omega,by go_num,by rw[HV.out];rw[pd _ (by omega) (by omega)]⟩
   case measure=>simp[intOf];omega
  ·by_cases hlt2:j=m
   ·subst hlt2;obtain⟨d,hd,d2,d3,hcj⟩:=HR.out.get j (by have:=HZ.out;omega);obtain rfl:d=0:=hd.trans HL.out;rw[Nat.min_self];have e2: (j:Int) < (j:Int) +1:=by omega
    clear hd d2 d3;go_wp2
    go_round
    case rel=>exact⟨j+1,by omega,by go_num,by rw[Nat.min_eq_right (by omega)]⟩
    case measure=>simp[intOf]
   ·obtain rfl:j=m+1:=by omega
    rw[Nat.min_eq_right (by omega)];go_wp2;go_ret2;exact⟨rfl,rfl⟩
theorem sZ (b off m cap:Nat)(zs:List Int)(w:World)(hz:zs.length=m+1)(h1:1<=m)(h2:m<=21)(hr:aO w b off zs)(ho:¬(zs.getD m 0=0/\nQ (zs.take m))) :
 Calls Tryz.prog 130 #[.slice (some ⟨b,off,none⟩) (m+1) cap] w fun e w'=>e= .returned (.tuple #[.int .i64 0,.int .i64 6])/\w=w':=by
 have HR:=aa hr;have HO:=aa ho;have HZ:=aa hz;have h3:¬(m:Int) +1<2:=by omega
 have h4:¬22< (m:Int) +1:=by omega
 clear hr hz ho;go_enter Tryz.func130,Tryz.ntmps130;go_wp2;go_loop [4,5] (fun t i=>∃j:Nat,j<=m/\i= .int .i64 j/\t= .int .i64 (val (zs.take j))/\nQ (zs.take j)) (fun _ i=>m+1- (intOf i).toNat)
 case atStart=>exact⟨0,Nat.zero_le _,rfl,rfl,fun x hx=>by simp at hx⟩
 case round=>
  obtain⟨j,hj,rfl,rfl,hoj⟩:=hrel;have HJ:=aa hoj;clear hoj;obtain⟨d,hd,d2,d3,hcj⟩:=HR.out.get j (by have:=HZ.out;omega);have HD:=aa hd;clear hd;by_cases hlt:j<m
  ·have e1: ((j:Int) == (m:Int)) =false:=by simp;omega
   have e2: (j:Int) < (m:Int) +1:=by omega
   by_cases hdd:48<=d/\d<=55
   ·have HV:Hid (val (zs.take (j+1)) =8*val (zs.take j) +d- 48) :=by
     show _=_;rw[eE (by have:=HZ.out;omega),nJ,HD.out];omega
    have HJ':Hid (nQ (zs.take (j+1))) :=by
     show nQ _;rw[eE (by have:=HZ.out;omega),<- HD.out];intro x hx;rcases List.mem_append.1 hx with hx|hx
     ·exact HJ.out x hx
     ·obtain rfl:x=d:=by simpa using hx
      exact hdd
    obtain⟨d4,d5⟩:=hdd;have hb:=tt j (zs.take j) (by have:=HZ.out;rw[List.length_take];omega) HJ.out;obtain⟨b0,b1⟩:=hb;have b2:=jB (k:=j) (by omega);have b3:val (zs.take j)<=1152921504606846975:=Int.le_trans b1 b2;have d6:¬d<48:=by omega
    have d7:¬55<d:=by omega
    clear b1 b2 d2 d3;go_wp2
    go_round
    case rel=>exact⟨j+1,by omega,by go_num,by rw[HV.out];rw[pd _ (by omega) (by omega)],HJ'.out⟩
    case measure=>simp[intOf];omega
   ·by_cases d6:d<48
    ·clear hdd;go_wp2;go_ret2;exact⟨rfl,rfl⟩
    ·have d7:55<d:=by omega
     clear hdd;go_wp2;go_ret2;exact⟨rfl,rfl⟩
  ·obtain rfl:j=m:=by omega
   have hne:¬d=0:=fun e=>HO.out ⟨HD.out.symm.trans e,HJ.out⟩;have e2: (j:Int) < (j:Int) +1:=by omega
   go_wp2;go_ret2;exact⟨rfl,rfl⟩
theorem ft (a:Option Addr)(len cap:Nat)(zs:List Int)(w:World)(h:BytesIn w a zs)(hz:zs.length=len)(hm:len<=maxLen) :
 Calls Tryz.prog 130 #[.slice a len cap] w fun e w'=>e= .returned (.tuple #[.int .i64 (Bk zs),.int .i64 (Bj zs)])/\w=w':=by
 subst hz;by_cases h1:zs.length<2\/22<zs.length
 ·unfold Bk Bj;rw[if_pos h1,if_pos h1];exact iW a _ cap w h1 hm
 ·rcases h with h|⟨b,off,rfl,_,hr⟩
  ·rw[h]at h1;simp at h1
  ·unfold Bk Bj;rw[if_neg h1,if_neg h1];obtain⟨m,hm'⟩:∃m,zs.length=m+1:=⟨zs.length- 1,by omega⟩;by_cases h2:sV zs
   ·rw[if_pos h2,if_pos h2,hm'];obtain⟨h3,h4⟩:=h2;rw[hm']at h3 h4;exact vP b off m cap zs w hm' (by omega) (by omega) hr h3 h4
   ·rw[if_neg h2,if_neg h2,hm'];exact sZ b off m cap zs w hm' (by omega) (by omega) hr (fun h4=>h2 (by unfold sV;rw[hm'];exact h4))
end Oct
namespace Ust
open Go.RowKit
open Oct Cst gR
theorem lX (zs:List Int)(h:Bytes zs) : (strOfNums (nO zs)).size<=256:=by
 have hb:∀z∈nO zs,0<=z/\z<=255:=CA zs h;rw[<- ah,ak hb];unfold nO
 split
 ·exact Nat.zero_le _
 ·split
  ·exact Nat.zero_le _
  ·have:=qo zs;omega
theorem jL (a:Option Addr)(n cap:Nat)(zs:List Int)(w:World)(hb:BytesIn w a zs)(hl:zs.length=n)(hz:Bytes zs)(hc:n<=cap)(hm:cap<=maxLen) :
 Calls Tryz.prog 78 #[.slice a n cap] w fun e w'=>e= .returned (.tuple #[.agg (dH zs).toArray,.int .i64 (lv zs)])/\Below w.heap.size w w':=by
 have HT:=aa Ds;have hz0: (Tryz.prog.info? 145).map (·.zero) =some (some (.agg bX.toArray)) :=by kernel_rfl
 have hs0: (Tryz.prog.info? 145).map (·.size) =some 6:=by kernel_rfl
 have HZ0:=aa hz0;have HS0:=aa hs0
 have H1C:Hid (∀(vs:List Value) (v:Value),v∈vs-> (vs=bX\/∃T nm pf lk md sz,vs=bu T nm pf lk md sz)->v.oneCell'=true) :=by
  rintro vs v hv (rfl|⟨T,nm,pf,lk,md,sz,rfl⟩)
  ·simp at hv;rcases hv with rfl|rfl|rfl<;>rfl
  ·simp at hv;rcases hv with rfl|rfl|rfl|rfl|rfl|rfl<;>rfl
 have HB:=aa hb;have HL:=aa hl;have HZ:=aa hz;have HM:=aa hm;clear hz0 hs0;obtain⟨R,hR⟩:=named (lv zs);obtain⟨V,hV⟩:=named (dH zs);rw[<- hR.out,<- hV.out];by_cases h5:n=512
 ·subst h5
  obtain⟨b,off,rfl,hlt,hr⟩:∃b off,a=some ⟨b,off,none⟩/\b<w.heap.size/\aO w b off zs:=by
   rcases hb with hb|hb
   ·rw[hb]at hl;cases hl
   ·exact hb
  have HR:=aa hr;have HLT:=aa hlt;obtain⟨v,hv⟩:=gR.DC zs;have HV:=aa hv;have HC:=aa hc;have k0:¬cap=0:=by omega
  have k1:¬cap=100:=by omega
  have k2:¬cap=124:=by omega
  have k3:¬cap=157:=by omega
  have k4:¬cap=345:=by omega
  have j1:¬cap<100:=by omega
  have j2:¬cap<108:=by omega
  have j3:¬cap<136:=by omega
  have j4:¬cap<257:=by omega
  have j5:¬cap<500:=by omega
  have i1:100<=cap:=by omega
  have i2:108<=cap:=by omega
  have i3:136<=cap:=by omega
  have i4:257<=cap:=by omega
  have i5:500<=cap:=by omega
  clear hb hl hz hm hr hlt hv hc;go_enter Tryz.func78,Tryz.ntmps78;go_wp2_with (refine ag rfl 145 rfl bX HZ0.out ?_;intro w1 h1 b1;have H1:=aa h1;have B1:=aa b1;clear h1 b1);refine(gR.Bv _ cap zs w1 v HL.out (HB.out.below B1.out) HZ.out HC.out HV.out).mono ?_;rintro e w2 ⟨rfl,b2⟩;have H2:=aa (H1.out.below b2 H1.out.lt);have B2:=aa (B1.out.trans (b2.mono B1.out.size));clear b2;rcases HV.out with⟨hs,rfl⟩|⟨hs,rfl⟩
  ·have HSL:=aa hs;clear hs;have R2:=aa (HR.out.below B2.out HLT.out);obtain⟨T,hT,t0,t1,ht⟩:=R2.out.get 156 (by rw[HL.out];decide);have TD:Hid (T=dT zs) :=hT;have T0:=aa (And.intro t0 t1);clear hT t0 t1;go_wp2_with (first| (refine ag rfl 145 rfl bX HZ0.out ?_;intro w3 h3 b3;have H3:=aa h3;have B3:=aa b3;clear h3 b3) | (refine ae rfl 145 _ _ rfl w2.heap.size rfl (bu T {data:= #[]} {data:= #[]} {data:= #[]} 0 0) bX rfl 145 H3.out HS0.out rfl (fun v hv=>H1C.out _ v hv (.inr ⟨_,_,_,_,_,_,rfl⟩)) ?_;intro w4 h4 t4;have H4:=aa h4;have T4:=aa t4;have c0:=h4.get 0 rfl;clear h4 t4));have B4:=aa (B2.out.trans ((B3.out.trans (T4.out.below aj)).mono B2.out.size));have H14:Hid (an w4 w.heap.size 145 bX) := (H2.out.below B3.out H2.out.lt).bH T4.out (by have:=H2.out.lt;omega);refine(nt T w4).mono ?_;rintro e w5 ⟨rfl,rfl⟩;by_cases hk:known T
   ·rw[decide_eq_true hk];have HKN:Hid (known (dT zs)) :=by show known _;rw[<- TD.out];exact hk
    clear hk;have X4:Hid (∀lo n,BytesIn w4 (some ⟨b,off+lo,none⟩) ((zs.drop lo).take n)) :=fun lo n=> .inr ⟨b,off+lo,rfl,Nat.lt_of_lt_of_le HLT.out B4.out.size,((HR.out.below B4.out HLT.out).drop lo).take n⟩;have L4:Hid (∀lo n,lo+n<=512-> ((zs.drop lo).take n).length=n) :=fun lo n h=>by rw[List.length_take,List.length_drop,HL.out];omega
    obtain⟨S1,hS1⟩:=named (strOfNums (nO ((zs.drop 0).take 100)));obtain⟨S2,hS2⟩:=named (strOfNums (nO ((zs.drop 157).take 100)));obtain⟨S3,hS3⟩:=named (strOfNums (nO ((zs.drop 345).take 155)));obtain⟨M4,hM4⟩:=named (Bk ((zs.drop 100).take 8));obtain⟨M5,hM5⟩:=named (Bk ((zs.drop 124).take 12));obtain⟨E1,hE1⟩:=named (pt ((zs.drop 0).take 100));obtain⟨E2,hE2⟩:=named (pt ((zs.drop 157).take 100));obtain⟨E3,hE3⟩:=named (pt ((zs.drop 345).take 155));obtain⟨E4,hE4⟩:=named (Bj ((zs.drop 100).take 8));obtain⟨E5,hE5⟩:=named (Bj ((zs.drop 124).take 12));go_wp2_with fail;refine(Cst.ft (some ⟨b,off,none⟩) 100 cap ((zs.drop 0).take 100) w4 (X4.out 0 100) (L4.out 0 100 (by decide)) i1 HM.out).mono ?_;rintro e w5 ⟨rfl,rfl⟩;rw[<- hS1.out,<- hE1.out];go_wp2_with fail;refine(Cst.ft (some ⟨b,off+157,none⟩) 100 (cap- 157) ((zs.drop 157).take 100) w4 (X4.out 157 100) (L4.out 157 100 (by decide)) (by omega) (Nat.le_trans (Nat.sub_le _ _) HM.out)).mono ?_;rintro e w5 ⟨rfl,rfl⟩;rw[<- hS2.out,<- hE2.out];go_wp2_with fail;refine(Cst.ft (some ⟨b,off+345,none⟩) 155 (cap- 345) ((zs.drop 345).take 155) w4 (X4.out 345 155) (L4.out 345 155 (by decide)) (by omega) (Nat.le_trans (Nat.sub_le _ _) HM.out)).mono ?_;rintro e w5 ⟨rfl,rfl⟩;rw[<- hS3.out,<- hE3.out];go_wp2_with fail;refine(Oct.ft (some ⟨b,off+100,none⟩) 8 (cap- 100) ((zs.drop 100).take 8) w4 (X4.out 100 8) (L4.out 100 8 (by decide)) (by unfold maxLen;decide)).mono ?_;rintro e w5 ⟨rfl,rfl⟩;rw[<- hM4.out,<- hE4.out];go_wp2_with fail;refine(Oct.ft (some ⟨b,off+124,none⟩) 12 (cap- 124) ((zs.drop 124).take 12) w4 (X4.out 124 12) (L4.out 124 12 (by decide)) (by unfold maxLen;decide)).mono ?_;rintro e w5 ⟨rfl,rfl⟩;rw[<- hM5.out,<- hE5.out]
    have DF:Hid (qF zs↔E1=0/\E2=0/\E3=0/\E4=0/\E5=0) :=by
     show _↔_;rw[hE1.out,hE2.out,hE3.out,hE4.out,hE5.out];exact Iff.rfl
    clear c0;by_cases hf:E1=0/\E2=0/\E3=0/\E4=0/\E5=0
    ·have HF:Hid (qF zs) :=DF.out.2 hf;obtain⟨rfl,rfl,rfl,rfl,rfl⟩:=hf;have e1:=H4.out.get 1 rfl;have e2:=H4.out.get 2 rfl;have e3:=H4.out.get 3 rfl;have e4:=H4.out.get 4 rfl;have e5:=H4.out.get 5 rfl;have f1:=H4.out.frozen 1;have f2:=H4.out.frozen 2;have f3:=H4.out.frozen 3;have f4:=H4.out.frozen 4;have f5:=H4.out.frozen 5;obtain⟨w6,h6⟩:=named (((((w4.setCell ⟨w2.heap.size,1,none⟩ (.string S1)).setCell ⟨w2.heap.size,3,none⟩ (.string S2)).setCell ⟨w2.heap.size,2,none⟩ (.string S3)).setCell ⟨w2.heap.size,4,none⟩ (.int .i64 M4)).setCell ⟨w2.heap.size,5,none⟩ (.int .i64 M5))
     have O6:Hid (an w6 w2.heap.size 145 (bu T S1 S3 S2 M4 M5)) :=by
      show an _ _ _ _;rw[h6.out];exact((((H4.out.set 1 _).set 3 _).set 2 _).set 4 _).set 5 _
     have W6:Hid (∀B,B<=w2.heap.size->Below B w4 w6) :=fun B hB=>by
      rw[h6.out];exact(((((Below.refl B w4).setCell (p:=⟨w2.heap.size,1,none⟩) hB _).setCell (p:=⟨w2.heap.size,3,none⟩) hB _).setCell (p:=⟨w2.heap.size,2,none⟩) hB _).setCell (p:=⟨w2.heap.size,4,none⟩) hB _).setCell (p:=⟨w2.heap.size,5,none⟩) hB _
     have H16:Hid (an w6 w.heap.size 145 bX) :=H14.out.below (W6.out w2.heap.size aj) (by have:=H2.out.lt;omega);have B6:=aa (B4.out.trans (W6.out w.heap.size B2.out.size));have Z1:Hid (S1.size<=maxLen) :=by show _<=_;rw[hS1.out];exact Nat.le_trans (lX _ ((HZ.out.drop 0).take 100)) (by unfold maxLen;decide)
     have Z2:Hid (S2.size<=maxLen) :=by show _<=_;rw[hS2.out];exact Nat.le_trans (lX _ ((HZ.out.drop 157).take 100)) (by unfold maxLen;decide)
     have Z3:Hid (S3.size<=maxLen) :=by show _<=_;rw[hS3.out];exact Nat.le_trans (lX _ ((HZ.out.drop 345).take 155)) (by unfold maxLen;decide)
     have EQ:Hid (dT zs=T/\xd zs=S1/\xe zs=S3/\xa zs=S2/\xb zs=M4/\xf zs=M5) :=⟨TD.out.symm,hS1.out.symm,hS3.out.symm,hS2.out.symm,hM4.out.symm,hM5.out.symm⟩;have e0:=H4.out.get 0 rfl;go_wp2_with fail;rw[<- h6.out];clear e0 e1 e2 e3 e4 e5 f1 f2 f3 f4 f5;by_cases hck:iN T S1 S3 S2 M4 M5=0
     ·have HCK:=aa hck;have KT:Hid (0<=T/\T<=255) :=T0.out;clear hck;refine(pW T S1 S3 S2 M4 M5 w6 Z1.out Z3.out Z2.out HCK.out).mono ?_;rintro e w7 ⟨b7,c7,rfl,hr7,hl7,hb7⟩;have B7:=aa (B6.out.trans (hb7.mono B6.out.size));have O7:=aa (O6.out.below hb7 O6.out.lt);have H17:=aa (H16.out.below hb7 H16.out.lt);have hc1:=dM (P:=Tryz.prog) (w:=w7) Tryz.underlying25 Tryz.underlying5 Tryz.underlying9 hr7 512 c7 (iP HCK.out);have hc2:=aQ (P:=Tryz.prog) (w:=w7) Tryz.underlying25 Tryz.underlying5 Tryz.underlying9 (HB.out.below B7.out) 512 cap HL.out;clear hr7 hl7 hb7;by_cases he:cZ T S1 S3 S2 M4 M5=zs
      ·obtain⟨q6,qV⟩:=zX HL.out HSL.out HKN.out ⟨HF.out,by obtain⟨a1,a2,a3,a4,a5,a6⟩:=EQ.out;rw[a1,a2,a3,a4,a5,a6];exact⟨HCK.out,he⟩⟩;have Q6:=aa q6;have QV:Hid (dH zs=bu T S1 S3 S2 M4 M5) :=by show _=_;rw[qV];obtain⟨a1,a2,a3,a4,a5,a6⟩:=EQ.out;rw[a1,a2,a3,a4,a5,a6]
       rw[he]at hc1;obtain⟨SZ,hSZ⟩:=named (strOfNums zs);rw[<- hSZ.out]at hc1 hc2;clear q6 qV he;have e0:=O7.out.get 0 rfl;have e1:=O7.out.get 1 rfl;have e2:=O7.out.get 2 rfl;have e3:=O7.out.get 3 rfl;have e4:=O7.out.get 4 rfl;have e5:=O7.out.get 5 rfl;go_wp2_with (first| (refine ae rfl 145 _ _ rfl w.heap.size rfl (bu T S1 S3 S2 M4 M5) bX rfl 145 H17.out HS0.out rfl (fun v hv=>H1C.out _ v hv (.inr ⟨_,_,_,_,_,_,rfl⟩)) ?_;intro w8 h8 t8;have H8:=aa h8;have T8:=aa t8;clear h8 t8));exact bodyPost_ret (bU Tryz.results78 HT.out _ w.heap.size rfl _ (bu T S1 S3 S2 M4 M5) H8.out rfl) rfl ⟨by rw[hR.out,hV.out,Q6.out,QV.out];rfl,B7.out.trans (T8.out.below aj)⟩
      ·obtain⟨q6,qV⟩:=sv HL.out HSL.out HKN.out (fun h=>he (by have:=h.2.2;obtain⟨a1,a2,a3,a4,a5,a6⟩:=EQ.out;rw[a1,a2,a3,a4,a5,a6]at this;exact this));have Q6:=aa q6;have QV:=aa qV;obtain⟨SZ,hSZ⟩:=named (strOfNums zs);obtain⟨SE,hSE⟩:=named (strOfNums (cZ T S1 S3 S2 M4 M5));have hnl: (SE.toList==SZ.toList) =false:=wM (by rw[hSZ.out,hSE.out];exact gR.yX (oC KT.out _ _ _ _ _) HZ.out he);rw[<- hSZ.out]at hc2;rw[<- hSE.out]at hc1;clear q6 qV he;go_wp2_with (first| (refine ae rfl 145 _ _ rfl w.heap.size rfl bX bX rfl 145 H17.out HS0.out rfl (fun v hv=>H1C.out _ v hv (.inl rfl)) ?_;intro w8 h8 t8;have H8:=aa h8;have T8:=aa t8;clear h8 t8));exact bodyPost_ret (bU Tryz.results78 HT.out _ w.heap.size rfl _ bX H8.out rfl) rfl ⟨by rw[hR.out,hV.out,Q6.out,QV.out];rfl,B7.out.trans (T8.out.below aj)⟩
     ·obtain⟨q6,qV⟩:=sv HL.out HSL.out HKN.out (fun h=>hck (by have:=h.2.1;obtain⟨a1,a2,a3,a4,a5,a6⟩:=EQ.out;rw[a1,a2,a3,a4,a5,a6]at this;exact this));have Q6:=aa q6;have QV:=aa qV;obtain⟨E,hE⟩:=named (iN T S1 S3 S2 M4 M5);have hne: (E !=0) =true:=by rw[hE.out];simp[hck]
      have HCK:=aa hck;clear q6 qV hck;refine(yB T S1 S3 S2 M4 M5 w6 Z1.out Z3.out Z2.out HCK.out).mono ?_;rintro e w7 ⟨rfl,hb7⟩;rw[<- hE.out];have B7:=aa (B6.out.trans (hb7.mono B6.out.size));have H17:=aa (H16.out.below hb7 H16.out.lt);clear hb7;go_wp2_with (first| (refine ae rfl 145 _ _ rfl w.heap.size rfl bX bX rfl 145 H17.out HS0.out rfl (fun v hv=>H1C.out _ v hv (.inl rfl)) ?_;intro w8 h8 t8;have H8:=aa h8;have T8:=aa t8;clear h8 t8));exact bodyPost_ret (bU Tryz.results78 HT.out _ w.heap.size rfl _ bX H8.out rfl) rfl ⟨by rw[hR.out,hV.out,Q6.out,QV.out];rfl,B7.out.trans (T8.out.below aj)⟩
    ·have HF:Hid (¬qF zs) :=fun h=>hf (DF.out.1 h);obtain⟨q6,qV⟩:=sv HL.out HSL.out HKN.out (fun h=>HF.out h.1);have Q6:=aa q6;have QV:=aa qV;clear q6 qV
     have cs: (E1 !=0) =true\/ ((E1 !=0) =false/\ (E2 !=0) =true)\/ ((E1 !=0) =false/\ (E2 !=0) =false/\ (E3 !=0) =true)\/ ((E1 !=0) =false/\ (E2 !=0) =false/\ (E3 !=0) =false/\ (E4 !=0) =true)\/
      ((E1 !=0) =false/\ (E2 !=0) =false/\ (E3 !=0) =false/\ (E4 !=0) =false/\ (E5 !=0) =true) :=by
      simp only[bne_iff_ne,ne_eq,bne_eq_false_iff_eq];by_cases a1:E1=0
      ·by_cases a2:E2=0
       ·by_cases a3:E3=0
        ·by_cases a4:E4=0
         ·exact .inr (.inr (.inr (.inr ⟨a1,a2,a3,a4,fun a5=>hf ⟨a1,a2,a3,a4,a5⟩⟩)))
         ·exact .inr (.inr (.inr (.inl ⟨a1,a2,a3,a4⟩)))
        ·exact .inr (.inr (.inl ⟨a1,a2,a3⟩))
       ·exact .inr (.inl ⟨a1,a2⟩)
      ·exact .inl a1
     clear hf;rcases cs with d1|⟨d1,d2⟩|⟨d1,d2,d3⟩|⟨d1,d2,d3,d4⟩|⟨d1,d2,d3,d4,d5⟩
     all_goals
      go_wp2_with (first| (refine ae rfl 145 _ _ rfl w.heap.size rfl bX bX rfl 145 H14.out HS0.out rfl (fun v hv=>H1C.out _ v hv (.inl rfl)) ?_;intro w7 h7 t7;have H7:=aa h7;have T7:=aa t7;clear h7 t7));exact bodyPost_ret (bU Tryz.results78 HT.out _ w.heap.size rfl _ bX H7.out rfl) rfl ⟨by rw[hR.out,hV.out,Q6.out,QV.out];rfl,B4.out.trans (T7.out.below aj)⟩
   ·have HKN:Hid (¬known (dT zs)) :=by show¬known _;rw[<- TD.out];exact hk
    rw[decide_eq_false hk];clear hk;obtain⟨q6,qV⟩:=zY HL.out HSL.out HKN.out;have Q6:=aa q6;have QV:=aa qV;clear q6 qV c0;go_wp2_with (first| (refine ae rfl 145 _ _ rfl w.heap.size rfl bX bX rfl 145 H14.out HS0.out rfl (fun v hv=>H1C.out _ v hv (.inl rfl)) ?_;intro w7 h7 t7;have H7:=aa h7;have T7:=aa t7;clear h7 t7));exact bodyPost_ret (bU Tryz.results78 HT.out _ w.heap.size rfl _ bX H7.out rfl) rfl ⟨by rw[hR.out,hV.out,Q6.out,QV.out];rfl,B4.out.trans (T7.out.below aj)⟩
  ·obtain⟨q6,qV⟩:=CH HL.out hs;have Q6:=aa q6;have QV:=aa qV;clear q6 qV hs;go_wp2_with (first| (refine ae rfl 145 _ _ rfl w.heap.size rfl bX bX rfl 145 H2.out HS0.out rfl (fun v hv=>H1C.out _ v hv (.inl rfl)) ?_;intro w7 h7 t7;have H7:=aa h7;have T7:=aa t7;clear h7 t7));exact bodyPost_ret (bU Tryz.results78 HT.out _ w.heap.size rfl _ bX H7.out rfl) rfl ⟨by rw[hR.out,hV.out,Q6.out,QV.out];rfl,B2.out.trans (T7.out.below aj)⟩
 ·obtain⟨q6,qV⟩:=CG (zs:=zs) (by rw[hl];exact h5);have Q6:=aa q6;have QV:=aa qV;have hne: ((n:Int) !=512) =true:=by simp;omega
  clear q6 qV hb hl hz hm hc h5;go_enter Tryz.func78,Tryz.ntmps78;go_wp2_with (first| (refine ag rfl 145 rfl bX HZ0.out ?_;intro w1 h1 b1;have H1:=aa h1;have B1:=aa b1;clear h1 b1) | (refine ae rfl 145 _ _ rfl w.heap.size rfl bX bX rfl 145 H1.out HS0.out rfl (fun v hv=>H1C.out _ v hv (.inl rfl)) ?_;intro w7 h7 t7;have H7:=aa h7;have T7:=aa t7;clear h7 t7));exact bodyPost_ret (bU Tryz.results78 HT.out _ w.heap.size rfl _ bX H7.out rfl) rfl ⟨by rw[hR.out,hV.out,Q6.out,QV.out];rfl,B1.out.trans (T7.out.below aj)⟩
end Ust
end Go.Proofs.YtcjagakckffkiaaGreatDoor
