import Derived.Test.YtcjagakckffkiaaGreatDoorQ8
import Derived.Test.YtcjagakckffkiaaGreatDoorQ1
import Derived.BigQuiet
import Derived.Laws.OwnMore
import Derived.Deep.RegionHeld3
import Derived.Test.YtcjagakckffkiaaGreatDoorQ4
import Derived.Test.YtcjagakckffkiaaGreatDoorQ7
set_option maxHeartbeats 16000000
namespace Go.Proofs.YtcjagakckffkiaaGreatDoor.bL
open Go.RowKit
theorem Pn:aQ.toList= [108,105,110,107,112,97,116,104] :=by rw[ByteArray.toList_eq]
theorem Qd:aM.toList= [112,97,116,104] :=by rw[ByteArray.toList_eq]
theorem Qa:aS.toList= [115,105,122,101] :=by rw[ByteArray.toList_eq]
theorem Qt {a b:ByteArray}(h:a=b) : (a.toList==b.toList) =true:=by rw[h];exact beq_self_eq_true _
theorem QD {a b:ByteArray}(h:¬a=b) : (a.toList==b.toList) =false:=ch h
theorem oM (k:ByteArray)(b0 b1 b2:Bool)(h0:decide (k=aQ) =b0)(h1:decide (k=aM) =b1)(h2:decide (k=aS) =b2) :
 (k.toList== [108,105,110,107,112,97,116,104]) =b0/\ (k.toList== [112,97,116,104]) =b1/\ (k.toList== [115,105,122,101]) =b2:=by
 rw[<- Pn,<- Qd,<- Qa,<- h0,<- h1,<- h2];refine⟨?_,?_,?_⟩
 ·by_cases h:k=aQ
  ·rw[decide_eq_true h];exact Qt h
  ·rw[decide_eq_false h];exact QD h
 ·by_cases h:k=aM
  ·rw[decide_eq_true h];exact Qt h
  ·rw[decide_eq_false h];exact QD h
 ·by_cases h:k=aS
  ·rw[decide_eq_true h];exact Qt h
  ·rw[decide_eq_false h];exact QD h
theorem rK (w:World)(xs:Array Value)(i:Nat)(hi:i<3)(s:ByteArray)(hx:xs[i]? =some (.string s)) : (Instr.index 301 (.agg xs) (.int .i64 (i:Int))).run Tryz.prog w= .ok (.string s) w:=by
 have he: (Tryz.prog.info? 9).map (·.size) =some 1:=by kernel_rfl
 cases hq:Tryz.prog.info? 9 with
 |none=>simp[hq]at he
 |some j=>
  have hs:j.size=1:=by simpa [hq]using he
  simp[Instr.index,asIntOf,run_underlying Tryz.underlying301,hi,sizeOf,typeInfo,hq,hs,part,hx]
def Je (b0 b1 b2:Bool)(i:Value) :Prop:=i= .int .i64 0\/ (i= .int .i64 1/\b0=false)\/ (i= .int .i64 2/\b0=false/\b1=false)\/ (i= .int .i64 3/\b0=false/\b1=false/\b2=false)
set_option maxRecDepth 100000 in
theorem DX (k:ByteArray)(w:World)(V:iX w)(B:Bool)(hB:B= (decide (k=aQ) ||decide (k=aM) ||decide (k=aS))) :Calls Tryz.prog 215 #[.string k] w fun e w'=>e= .returned (.bool B)/\w=w':=by
 have c0:=V.k0;have c1:=V.k1;have c2:=V.k2;obtain⟨b0,h0⟩:∃b,decide (k=aQ) =b:=⟨_,rfl⟩;obtain⟨b1,h1⟩:∃b,decide (k=aM) =b:=⟨_,rfl⟩;obtain⟨b2,h2⟩:∃b,decide (k=aS) =b:=⟨_,rfl⟩;obtain⟨t0,t1,t2⟩:=oM k b0 b1 b2 h0 h1 h2;rw[h0,h1,h2]at hB;have HB:=ad hB;have T0:=ad t0;have T1:=ad t1;have T2:=ad t2;clear V h0 h1 h2 hB t0 t1 t2;go_enter Tryz.func215,Tryz.ntmps215;go_wp2_with fail;clear c0 c1 c2;go_loop [6] (fun i=>Je b0 b1 b2 i) (fun i=>3- (intOf i).toNat)
 case atStart=>exact .inl rfl
 case round=>
  rcases hrel with rfl|⟨rfl,x0⟩|⟨rfl,x0,x1⟩|⟨rfl,x0,x1,x2⟩
  ·have t:=T0.out;have hix:=rK w #[.string aQ,.string aM,.string aS] 0 (by decide) _ rfl
   change (Instr.index 301 _ (.int .i64 0)).run Tryz.prog w=_ at hix
   cases b0 with
   |true=>
    go_wp2;go_ret;exact⟨by rw[HB.out];rfl,rfl⟩
   |false=>
    go_wp2
    go_round
    case rel=>exact .inr (.inl ⟨rfl,rfl⟩)
    case measure=>simp[intOf]
  ·have t:=T1.out;have hix:=rK w #[.string aQ,.string aM,.string aS] 1 (by decide) _ rfl
   change (Instr.index 301 _ (.int .i64 1)).run Tryz.prog w=_ at hix
   have X0:=ad x0;clear x0
   cases b1 with
   |true=>
    go_wp2;go_ret;exact⟨by rw[HB.out,X0.out];rfl,rfl⟩
   |false=>
    go_wp2
    go_round
    case rel=>exact .inr (.inr (.inl ⟨rfl,X0.out,rfl⟩))
    case measure=>simp[intOf]
  ·have t:=T2.out;have hix:=rK w #[.string aQ,.string aM,.string aS] 2 (by decide) _ rfl
   change (Instr.index 301 _ (.int .i64 2)).run Tryz.prog w=_ at hix
   have X0:=ad x0;have X1:=ad x1;clear x0 x1
   cases b2 with
   |true=>
    go_wp2;go_ret;exact⟨by rw[HB.out,X0.out,X1.out];rfl,rfl⟩
   |false=>
    go_wp2
    go_round
    case rel=>exact .inr (.inr (.inr ⟨rfl,X0.out,X1.out,rfl⟩))
    case measure=>simp[intOf]
  ·have X0:=ad x0;have X1:=ad x1;have X2:=ad x2;clear x0 x1 x2;go_wp2;go_ret;exact⟨by rw[HB.out,X0.out,X1.out,X2.out];rfl,rfl⟩
theorem jb (v:ByteArray)(w:World)(hv:v.size<=maxLen) :Calls Tryz.prog 217 #[.string v] w fun e w'=>e= .returned (.int .i64 (iC v))/\w=w':=by
 unfold maxLen at hv;obtain⟨R,hR⟩:=named (iC v);rw[<- hR.out];by_cases h1:65536<v.size
 ·have e:=ad (show R=7 by rw[hR.out];unfold iC;rw[if_pos h1]);have m1: (65536:Int) <v.size:=by omega
  clear h1 hR;go_enter Tryz.func217,Tryz.ntmps217;go_wp2;go_ret;exact⟨by rw[e.out];rfl,rfl⟩
 ·have m1:¬(65536:Int) <v.size:=by omega
  obtain⟨k,hk⟩:=named (Lib.indexByte v.data.toList 0);have hk0:=ue v;rw[<- hk.out]at hk0;by_cases h2:v= {data:= #[]}
  ·have e:=ad (show R=6 by rw[hR.out];unfold iC;rw[if_neg h1,if_pos (.inl (by rw[h2];rfl))]);have hi:v.toList.isEmpty=true:=by rw[h2,ByteArray.toList_eq];rfl
   have hi2:v.toList= [] :=by rw[h2,ByteArray.toList_eq]
   clear h1 hR h2 hk0 hi2;go_enter Tryz.func217,Tryz.ntmps217;go_wp2;go_ret;exact⟨by rw[e.out];rfl,rfl⟩
  ·have hi:=ed h2;have hs0:v.size≠0:=fun e=>h2 (eN (by rw[List.length_eq_zero_iff.1 ((an v).trans e)];rfl));by_cases h3: (0:Int)∈af v
   ·have e:=ad (show R=6 by rw[hR.out];unfold iC;rw[if_neg h1,if_pos (.inr h3)]);have m2:0<=k:=hk0.2 h3;clear h1 hR h2 hk0 h3 hs0;go_enter Tryz.func217,Tryz.ntmps217;go_wp2_with fail;refine(Tryz.strings_IndexByte v 0 w).mono ?_;rintro e w1 ⟨rfl,rfl⟩;rw[show(0:Int).toNat.toUInt8=0 from rfl,<- hk.out];go_wp2;go_ret;exact⟨by rw[e.out];rfl,rfl⟩
   ·have e:=ad (show R=0 by rw[hR.out];unfold iC;rw[if_neg h1,if_neg (fun h=>h.elim hs0 h3)]);have m2:¬0<=k:=fun h=>h3 (hk0.1 h);clear h1 hR h2 hk0 h3 hs0;go_enter Tryz.func217,Tryz.ntmps217;go_wp2_with fail;refine(Tryz.strings_IndexByte v 0 w).mono ?_;rintro e w1 ⟨rfl,rfl⟩;rw[show(0:Int).toNat.toUInt8=0 from rfl,<- hk.out];go_wp2;go_ret;exact⟨by rw[e.out];rfl,rfl⟩
theorem Hl (v:ByteArray)(w:World)(hv:v.size<=maxLen) :Calls Tryz.prog 216 #[.string v] w fun e w'=>e= .returned (.int .i64 (sD v))/\Below w.heap.size w w':=by
 obtain⟨R,hR⟩:=named (sD v);rw[<- hR.out];have P:=vX v w hv;obtain⟨n,hn⟩:=named (Gh (af v));obtain⟨B,hB⟩:=named (cU (af v));rw[<- hn.out,<- hB.out]at P;have HP:=ad P;clear P;by_cases h1:cU (af v) =false
 ·have e:=ad (show R=6 by rw[hR.out];unfold sD;rw[if_pos h1]);have b:=hB.out.trans h1;subst b;clear hB hR hn h1;go_enter Tryz.func216,Tryz.ntmps216;go_wp2_with fail;refine HP.out.mono ?_;rintro e w1 ⟨rfl,b1⟩;go_wp2;go_ret;exact⟨by rw[e.out];rfl,b1⟩
 ·have h1':cU (af v) =true:=by simpa using h1
  have b:=hB.out.trans h1';have en:=hn.out;unfold Gh at en;rw[if_pos h1']at en;by_cases h2:1099511627776<gi (af v)
  ·have e:=ad (show R=3 by rw[hR.out];unfold sD;rw[if_neg h1,if_pos h2]);have m: (1099511627776:Int) <n:=by omega
   subst b;clear hB hR hn h1 h1' en h2;go_enter Tryz.func216,Tryz.ntmps216;go_wp2_with fail;refine HP.out.mono ?_;rintro e w1 ⟨rfl,b1⟩;go_wp2;go_ret;exact⟨by rw[e.out];rfl,b1⟩
  ·have e:=ad (show R=0 by rw[hR.out];unfold sD;rw[if_neg h1,if_neg h2]);have m:¬(1099511627776:Int) <n:=by omega
   subst b;clear hB hR hn h1 h1' en h2;go_enter Tryz.func216,Tryz.ntmps216;go_wp2_with fail;refine HP.out.mono ?_;rintro e w1 ⟨rfl,b1⟩;go_wp2;go_ret;exact⟨by rw[e.out];rfl,b1⟩
theorem eG (k v:ByteArray)(w:World)(V:iX w)(hv:v.size<=maxLen) :Calls Tryz.prog 191 #[.agg #[.string k,.string v]] w fun e w'=>e= .returned (.int .i64 (dA (k,v)))/\Below w.heap.size w w':=by
 obtain⟨R,hR⟩:=named (dA (k,v));rw[<- hR.out];have HP:=ad fun(B:Bool) hB (w':World) (hb:Below w.heap.size w w') =>DX k w' (V.go hb) B hB;have HT:=ad fun(w':World) =>jb v w' hv;have HS:=ad fun(w':World) =>Hl v w' hv;have b0:Hid (Below w.heap.size w (w.alloc (.cells #[.string k,.string v] 202))) := (Below.refl _ w).alloc ah _;have hd:=hR.out;unfold dA at hd;dsimp only at hd;by_cases h1:k=aQ\/k=aM
 ·rw[if_pos h1]at hd;have h3:k≠aS:=by rcases h1 with rfl|rfl<;>decide
  have t3:= (oM k _ _ _ rfl rfl rfl).2.2;rw[decide_eq_false h3]at t3
  have hp: (true:Bool) = (decide (k=aQ) ||decide (k=aM) ||decide (k=aS)) :=by
   rcases h1 with rfl|rfl<;>decide
  have HPP:=ad fun w' hb=>HP.out true hp w' hb;have HD:=ad hd;clear hR hd h1 h3 hp HP;go_enter Tryz.func191,Tryz.ntmps191;go_wp2_with fail;refine(HPP.out _ b0.out).mono ?_;rintro e w1 ⟨rfl,rfl⟩;go_wp2_with fail;refine(HT.out _).mono ?_;rintro e w1 ⟨rfl,rfl⟩;go_wp2;go_ret;exact⟨by rw[HD.out];rfl,b0.out⟩
 ·rw[if_neg h1]at hd;by_cases h2:k=aS
  ·rw[if_pos h2]at hd;have t3:= (oM k _ _ _ rfl rfl rfl).2.2;rw[decide_eq_true h2]at t3
   have hp: (true:Bool) = (decide (k=aQ) ||decide (k=aM) ||decide (k=aS)) :=by
    rw[h2];decide
   have HPP:=ad fun w' hb=>HP.out true hp w' hb;have HD:=ad hd;clear hR hd h1 h2 hp HP;go_enter Tryz.func191,Tryz.ntmps191;go_wp2_with fail;refine(HPP.out _ b0.out).mono ?_;rintro e w1 ⟨rfl,rfl⟩;go_wp2_with fail;refine(HS.out _).mono ?_;rintro e w1 ⟨rfl,b1⟩;have B1:=ad b1;clear b1;go_wp2;go_ret;exact⟨by rw[HD.out];rfl,b0.out.trans (B1.out.mono (by simp))⟩
  ·rw[if_neg h2]at hd
   have hp: (false:Bool) = (decide (k=aQ) ||decide (k=aM) ||decide (k=aS)) :=by
    rw[decide_eq_false (fun h=>h1 (.inl h)),decide_eq_false (fun h=>h1 (.inr h)),decide_eq_false h2];rfl
   have HPP:=ad fun w' hb=>HP.out false hp w' hb;have HD:=ad hd;clear hR hd h1 h2 hp HP;go_enter Tryz.func191,Tryz.ntmps191;go_wp2_with fail;refine(HPP.out _ b0.out).mono ?_;rintro e w1 ⟨rfl,rfl⟩;go_wp2;go_ret;exact⟨by rw[HD.out];rfl,b0.out⟩
end Go.Proofs.YtcjagakckffkiaaGreatDoor.bL
namespace Go.Proofs.YtcjagakckffkiaaGreatDoor.bL
open Go.RowKit
set_option maxRecDepth 100000 in
theorem rC (k v:ByteArray)(w:World)(V:iX w)(h:mB (k,v)<=1000000) :Calls Tryz.prog 201 #[.agg #[.string k,.string v]] w fun e w'=>e= .returned (.int .i64 (lv (k,v) :Nat))/\Below w.heap.size w w':=by
 obtain⟨R,hR⟩:=named ((lv (k,v) :Nat) :Int);rw[<- hR.out];obtain⟨O,hO⟩:=named (mB (k,v));rw[<- hO.out]at h;have hO':=hO.out;unfold mB at hO';dsimp only at hO';have b1: (k.size:Int)<=1000000:=by omega
 have b2: (v.size:Int)<=1000000:=by omega
 have S:=qB h;have HRR:Hid (R= ((vL O+O:Nat) :Int)) :=by show _=_;rw[hR.out];unfold lv pA;rw[<- hO.out]
 have HO:Hid (3+ (k.size:Int) + (v.size:Int) = (O:Int)) :=by show _=_;omega
 have b0:Hid (Below w.heap.size w (w.alloc (.cells #[.string k,.string v] 202))) := (Below.refl _ w).alloc ah _;have HS:=ad S;have HV:=ad V;have HL:=ad h
 have h8:Hid (Lib.nDigits (8+O)<=8) :=gQ 7 _ (by
  have: (10:Nat) ^ (7+1) =100000000:=by decide
  omega)
 clear hR hO hO' h S V;go_enter Tryz.func201,Tryz.ntmps201;go_wp2;go_loopw [4] (fun d wr=>∃D f:Nat,d= .int .i64 D/\1<=D/\D+f=8/\yT f D O=vL O/\Below w.heap.size w wr) (fun d _=>9- (intOf d).toNat)
 case atStart=>exact⟨1,7,rfl,ah,rfl,rfl,b0.out⟩
 case round=>
  obtain⟨D,f,rfl,hD1,hDf,hz,hb⟩:=hrel;have HZ:=ad hz;have HB:=ad hb;have d0: (0:Int)<=D:=by omega
  have d1: (D:Int)<=8:=by omega
  have I:=xY (D+O) (by have:=HL.out;omega) wr (HV.out.go hb);have ei: ((D+O:Nat) :Int) = (D:Int) + (3+ (k.size:Int) + (v.size:Int)) :=by rw[HO.out];omega
  rw[ei]at I;obtain⟨T,hT⟩:=named (strOfNums (dq (D+O)));rw[<- hT.out]at I;have HI:=ad I;have hts:T.size=Lib.nDigits (D+O) :=by rw[hT.out,tm]
  have HT:=ad hts;clear hz hb I ei hT;by_cases ht:D<T.size
  ·have m1: (D:Int) <T.size:=by omega
   have d2: (D:Int) +1<=9:=by omega
   have hf:f≠0:=fun e=>by
    have:=h8.out;rw[HT.out]at ht;rw[show D=8 by omega]at ht;omega
   obtain⟨g,rfl⟩:∃g,f=g+1:=⟨f- 1,by omega⟩
   have HG:Hid (yT g (D+1) O=vL O) :=by
    show _=_;rw[<- HZ.out,NY (by rw[<- HT.out];omega)]
   clear ht hts hf;go_wp2_with fail;refine HI.out.mono ?_;rintro e w1 ⟨rfl,b3⟩;have B3:=ad b3;clear b3;go_wp2;go_roundw
   case rel=>exact⟨D+1,g,by go_num,by omega,by omega,HG.out,HB.out.trans (B3.out.mono HB.out.size)⟩
   case measure=>simp[intOf];omega
  ·have m1:¬(D:Int) <T.size:=by omega
   have HE:Hid (R= (D:Int) + (3+ (k.size:Int) + (v.size:Int))) :=by
    show _=_;rw[HRR.out,<- HZ.out,Hy (by rw[<- HT.out];omega),HO.out];omega
   clear ht hts;go_wp2_with fail;refine HI.out.mono ?_;rintro e w1 ⟨rfl,b3⟩;have B3:=ad b3;clear b3;go_wp2;go_ret;exact⟨by rw[HE.out];rfl,HB.out.trans (B3.out.mono HB.out.size)⟩
def od (w:World)(b off:Nat)(rs:List Rec) :Prop:=
 ∀i r,rs[i]? =some r->w.cell? ⟨b,off+i*2,none⟩=some (.string r.1)/\w.cell? ⟨b,off+i*2+1,none⟩=some (.string r.2)
def bS (w:World)(a:Option Addr)(rs:List Rec) :Prop:=rs= []\/∃b off,a=some ⟨b,off,none⟩/\b<w.heap.size/\od w b off rs
theorem od.below {w w':World}{B b off:Nat}{rs:List Rec}(h:od w b off rs)(hb:Below B w w')(hB:b<B) :od w' b off rs:=fun i r hi=>
 ⟨(hb.cell (p:=⟨b,off+i*2,none⟩) hB).trans (h i r hi).1,(hb.cell (p:=⟨b,off+i*2+1,none⟩) hB).trans (h i r hi).2⟩
theorem bS.below {w w':World}{a:Option Addr}{rs:List Rec}(h:bS w a rs)(hb:Below w.heap.size w w') :bS w' a rs:=by
 rcases h with h|⟨b,off,h1,h2,h3⟩
 ·exact .inl h
 ·exact .inr ⟨b,off,h1,Nat.lt_of_lt_of_le h2 hb.size,h3.below hb h2⟩
theorem bS.get {w:World}{a:Option Addr}{rs:List Rec}(h:bS w a rs)(i:Nat)(r:Rec)(hi:rs[i]? =some r) :
 ∃b off,a=some ⟨b,off,none⟩/\b<w.heap.size/\w.cell? ⟨b,off+i*2,none⟩=some (.string r.1)/\w.cell? ⟨b,off+i*2+1,none⟩=some (.string r.2) :=by
 rcases h with h|⟨b,off,h1,h2,h3⟩
 ·rw[h]at hi;simp at hi
 ·exact⟨b,off,h1,h2,h3 i r hi⟩
theorem bS.take {w:World}{a:Option Addr}{rs:List Rec}(h:bS w a rs)(k:Nat) :bS w a (rs.take k) :=by
 rcases h with h|⟨b,off,h1,h2,h3⟩
 ·rw[h];exact .inl (List.take_nil)
 ·refine .inr ⟨b,off,h1,h2,fun i r hi=>h3 i r ?_⟩;rw[List.getElem?_take]at hi
  split at hi
  ·exact hi
  ·cases hi
theorem CA {k:ByteArray} :ki [] k=false:=rfl
theorem Kr {rs:List Rec}{q:Rec}{n:Nat}(hn:rs.length=n+1)(h:rs[n]? =some q)(k:ByteArray) :ki rs k=pw k q.1:=by
 unfold ki;rw[List.getLast?_eq_getElem?,hn,Nat.add_sub_cancel,h]
theorem kp (a:Option Addr)(n cap:Nat)(rs:List Rec)(k v:ByteArray)(w:World)(V:iX w)(hv:v.size<=maxLen)(hn:rs.length=n)(hc:n<=cap)(hm:cap<=maxLen)(hR:bS w a rs) :
 Calls Tryz.prog 199 #[.slice a n cap,.agg #[.string k,.string v]] w fun e w'=>e= .returned (.int .i64 (eI rs (k,v)))/\Below w.heap.size w w':=by
 unfold maxLen at hm;obtain⟨R,hRR⟩:=named (eI rs (k,v));rw[<- hRR.out];have b0:Hid (Below w.heap.size w (w.alloc (.cells #[.string k,.string v] 202))) := (Below.refl _ w).alloc ah _;have hC:=ad fun(w':World) (hb:Below w.heap.size w w') =>eG k v w' (V.go hb) hv;obtain⟨c,hcE⟩:=named (dA (k,v));rw[<- hcE.out]at hC;by_cases h0:c=0
 ·by_cases hn0:n=0
  ·have e:=ad (show R=0 by rw[hRR.out];unfold eI;rw[if_neg (by rw[<- hcE.out,h0];simp),List.length_eq_zero_iff.1 (hn.trans hn0),CA];rfl);have hd:decide ((0:Int) < (n:Int)) =false:=by rw[hn0];decide
   have hd2:decide (0<n) =false:=by rw[hn0];decide
   subst h0;clear hRR hcE hn hR V hn0 hm hc;go_enter Tryz.func199,Tryz.ntmps199;go_wp2_with fail;refine(hC.out _ b0.out).mono ?_;rintro e w1 ⟨rfl,b1⟩;have B1:=ad b1;clear b1;have c0:w1.cell? ⟨w.heap.size,0,none⟩=some (.string k) := (B1.out.cell (p:=⟨w.heap.size,0,none⟩) (by simp)).trans (by rw[World.cell?_alloc_at _ _ _ _ rfl];rfl);go_wp2_with fail;go_quiet (fail);go_wp2;go_ret;exact⟨by rw[e.out];rfl,(b0.out.trans (B1.out.mono (by simp))).trans (aO _ _ _)⟩
  ·obtain⟨m,hnm⟩:∃m,n=m+1:=⟨n- 1,by omega⟩;obtain⟨q,hq⟩:∃q,rs[m]? =some q:=⟨rs[m],List.getElem?_eq_getElem (by omega)⟩;obtain⟨b,off,rfl,hlt,q0,_⟩:=hR.get m q hq;have q0':Hid (∀w',Below w.heap.size w w'->w'.cell? ⟨b,off+m*2,none⟩=some (.string q.1)) :=fun w' hb=> (hb.cell (p:=⟨b,off+m*2,none⟩) hlt).trans q0;have hle:=Kr (hn.trans hnm) hq k;have hd:decide ((0:Int) < (n:Int)) =true:=decide_eq_true (by omega);have hd2:decide (0<n) =true:=decide_eq_true (by omega);have m1:IntKind.i64.wrap ((n:Int) - 1) = (m:Int) :=by rw[show(n:Int) - 1=m by omega];exact jJ (by omega) (by omega)
   have m2: (m:Int) <n:=by omega
   cases hK:pw k q.1 with
   |true=>
    have e:=ad (show R=12 by rw[hRR.out];unfold eI;rw[if_neg (by rw[<- hcE.out,h0];simp),hle,hK];rfl);have hK': (Op.bytesLess k.toList q.1.toList||k.toList==q.1.toList) =true:=hK;subst h0;clear hRR hcE hn hR V q0 hq hle hK hn0 hnm;go_enter Tryz.func199,Tryz.ntmps199;go_wp2_with fail;refine(hC.out _ b0.out).mono ?_;rintro e w1 ⟨rfl,b1⟩;have B1:=ad b1;have c0:w1.cell? ⟨w.heap.size,0,none⟩=some (.string k) := (B1.out.cell (p:=⟨w.heap.size,0,none⟩) (by simp)).trans (by rw[World.cell?_alloc_at _ _ _ _ rfl];rfl);have c1:=q0'.out w1 (b0.out.trans (b1.mono (by simp)));clear b1;go_wp2_with fail;go_quiet (fail);go_wp2;go_ret;exact⟨by rw[e.out];rfl,(b0.out.trans (B1.out.mono (by simp))).trans (aO _ _ _)⟩
   |false=>
    have e:=ad (show R=0 by rw[hRR.out];unfold eI;rw[if_neg (by rw[<- hcE.out,h0];simp),hle,hK];rfl);have hK': (Op.bytesLess k.toList q.1.toList||k.toList==q.1.toList) =false:=hK;subst h0;clear hRR hcE hn hR V q0 hq hle hK hn0 hnm;go_enter Tryz.func199,Tryz.ntmps199;go_wp2_with fail;refine(hC.out _ b0.out).mono ?_;rintro e w1 ⟨rfl,b1⟩;have B1:=ad b1;have c0:w1.cell? ⟨w.heap.size,0,none⟩=some (.string k) := (B1.out.cell (p:=⟨w.heap.size,0,none⟩) (by simp)).trans (by rw[World.cell?_alloc_at _ _ _ _ rfl];rfl);have c1:=q0'.out w1 (b0.out.trans (b1.mono (by simp)));clear b1;go_wp2_with fail;go_quiet (fail);go_wp2;go_ret;exact⟨by rw[e.out];rfl,(b0.out.trans (B1.out.mono (by simp))).trans (aO _ _ _)⟩
 ·have e:=ad (show R=c by rw[hRR.out];unfold eI;rw[if_pos (by rw[<- hcE.out];exact h0),hcE.out]);have m1: (c !=0) =true:=by simpa using h0
  clear hRR hcE hn hR V h0;go_enter Tryz.func199,Tryz.ntmps199;go_wp2_with fail;refine(hC.out _ b0.out).mono ?_;rintro e w1 ⟨rfl,b1⟩;have B1:=ad b1;clear b1;go_wp2;go_ret;exact⟨by rw[e.out];rfl,b0.out.trans (B1.out.mono (by simp))⟩
end Go.Proofs.YtcjagakckffkiaaGreatDoor.bL
namespace Go.Proofs.YtcjagakckffkiaaGreatDoor.bL
open Go.RowKit
def rz:List Value:= [.string {data:= #[]},.string {data:= #[]}]
theorem uY: (Tryz.prog.info? 202).map (·.zero) =some (some (.agg rz.toArray)) :=by kernel_rfl
theorem uz:ij Tryz.prog 202 2:=⟨⟨_,Tryz.underlying202⟩,by kernel_rfl⟩
theorem uf:∀v∈rz,v.oneCell'=true:=by simp[rz,Value.oneCell']
theorem eF (k v:ByteArray) :∀x∈ [Value.string k,Value.string v],x.oneCell'=true:=by simp[Value.oneCell']
theorem get_some {rs:List Rec}{j:Nat}(h:j<rs.length) :∃r,rs[j]? =some r:=⟨rs[j],List.getElem?_eq_getElem h⟩
theorem Pv:∃i0,Hid (Tryz.prog.info? 202=some i0/\i0.zero=some (.agg rz.toArray)/\i0.size=2/\i0.bytes=32/\ (Value.agg rz.toArray).cells.size=2) :=by
 have h: (Tryz.prog.info? 202).map (fun i=> (i.zero,i.size,i.bytes)) =some (some (.agg rz.toArray),2,32) :=by kernel_rfl
 cases hq:Tryz.prog.info? 202 with
 |none=>simp[hq]at h
 |some i=>simp[hq]at h;exact⟨i,rfl,h.1,h.2.1,h.2.2,rfl⟩
theorem PX: (Tryz.prog.info? 202).map (fun i=> (i.zero,i.size)) =some (some (.agg rz.toArray),2) :=by kernel_rfl
end Go.Proofs.YtcjagakckffkiaaGreatDoor.bL
namespace Go.Proofs.YtcjagakckffkiaaGreatDoor.bL
open Go.RowKit
def aW (rs:List Rec) :List Value:=rs.flatMap fun r=> [Value.string r.1,Value.string r.2]
theorem mR:∀rs:List Rec,(aW rs).length=rs.length*2
 | [] =>rfl
 |r::rs=>by
  have:=mR rs;unfold aW at this⊢;rw[List.flatMap_cons,List.length_append,this,List.length_cons];simp;omega
theorem sE (rs:List Rec)(r:Rec) :aW (rs++ [r]) =aW rs++ [Value.string r.1,Value.string r.2] :=by unfold aW;simp
theorem pF:∀(rs:List Rec) (i:Nat) (r:Rec),rs[i]? =some r-> (aW rs)[i*2]? =some (.string r.1)/\ (aW rs)[i*2+1]? =some (.string r.2)
 | [],i,r,h=>by simp at h
 |q::rs,i,r,h=>by
  have e:aW (q::rs) =Value.string q.1::Value.string q.2::aW rs:=by unfold aW;rw[List.flatMap_cons];rfl
  rw[e]
  cases i with
  |zero=>simp at h;subst h;exact⟨rfl,rfl⟩
  |succ i=>
   have:=pF rs i r (by simpa using h);rw[show(i+1) *2=i*2+1+1 by omega]
   simpa using this
theorem bS.bJ {w:World}{base n:Nat}{e:TypeId}{v:Value}{rs:List Rec}(h:w.ownsRow base e 2 v n (aW rs)) :
 ∃a c,v= .slice a n c/\n=rs.length/\n<=c/\c<=maxLen/\bS w a rs/\ (∀x,a=some x->base<=x.block/\x.block<w.heap.size) :=by
 have hl:=h.1;rw[mR]at hl;have hn:n=rs.length:=by omega
 rcases h.2 with⟨hv,h0⟩|⟨g,cap,cur,hv,hb,hh,hc,hm,hs,ht⟩
 ·subst h0;exact⟨none,0,hv,hn,ah,Nat.zero_le _,.inl (List.length_eq_zero_iff.1 hn.symm),fun x hx=>by cases hx⟩
 ·have hlt:g<w.heap.size:= (Array.getElem?_eq_some_iff.1 hh).1;refine⟨some ⟨g,0,none⟩,cap,hv,hn,hc,hm,.inr ⟨g,0,rfl,hlt,fun i r hi=>?_⟩,fun x hx=>by cases hx;exact⟨hb,hlt⟩⟩;obtain⟨c0,c1⟩:=pF rs i r hi;have hir:i<rs.length:= (List.getElem?_eq_some_iff.1 hi).1
  have get:∀j u,j<n*2-> (aW rs)[j]? =some u->w.cell? ⟨g,j,none⟩=some u:=fun j u hj hu=>by
   rw[<- ht,List.getElem?_take,if_pos hj]at hu;rw[World.cell?,hh]
   simpa using hu
  rw[Nat.zero_add];exact⟨get _ _ (by omega) c0,get _ _ (by omega) c1⟩
theorem ze {w:World}{base n size:Nat}{e:TypeId}{v:Value}{xs:List Value}(h:w.ownsRow base e size v n xs) :∀k,v.ownBlock=some k->base<=k:=by
 intro k hk;rcases h.2 with⟨h',_⟩|⟨g',cap',cur,hv,hb',_⟩
 ·rw[h']at hk;cases hk
 ·rw[hv]at hk;obtain rfl:g'=k:=by simpa [Value.ownBlock]using hk
  exact hb'
theorem cG {w w':World}{base B n size:Nat}{e:TypeId}{v:Value}{xs:List Value}(h:w.ownsRow base e size v n xs)(hb:Below B w w')(hB:w.heap.size<=B) :w'.ownsRow base e size v n xs:=by
 obtain⟨h1,h2⟩:=h;refine⟨h1,?_⟩;rcases h2 with h2|⟨g',cap',cur,hv,hb',hh,r⟩
 ·exact Or.inl h2
 ·have hlt:g'<w.heap.size:= (Array.getElem?_eq_some_iff.1 hh).1;exact Or.inr ⟨g',cap',cur,hv,hb',by rw[hb.block g' (by omega)];exact hh,r⟩
section
variable {P:Program} {w:World} {ops:Array Oper} {rest:List Oper} {o:Oper} {a:Act} {Q:Exit->Act->World->Prop}
theorem bQ (hgd:o.guard=none)(t e:TypeId)(x:Operand)(ho:o.op= .buildSlice t 1 #[(0,x)])(ht:P.underlying t=some (.slice e))(z:Value)(hI: (P.info? e).map (fun i=> (i.zero,i.size)) =some (some z,2))
 (k v:ByteArray)(hx:a.eval x= .agg #[.string k,.string v])
 (K:∀w',w'.heap[w.heap.size]? =some (.cells #[.string k,.string v] e (0,0))->Below w.heap.size w w'->wpList P ops Q rest (a.put o.dst (.slice (some ⟨w.heap.size,0,none⟩) 1 1)) w') :wpList P ops Q (o::rest) a w:=by
 refine wpList_plain hgd fun K' hK=>?_
 cases hq:P.info? e with
 |none=>simp[hq]at hI
 |some i=>
  simp[hq]at hI
  have hrun: (Instr.buildSlice t 1 #[(0,.agg #[.string k,.string v])]).run P w= .ok (.slice (some ⟨w.heap.size,0,none⟩) 1 1) (w.alloc (.cells #[.string k,.string v] e)) :=by
   simp[Instr.buildSlice,run_underlying ht,sizeOf,typeInfo,zeroValue,hq,hI.1,hI.2,Instr.fill,newRow,Value.cells];rw[show Array.range 2= #[0,1] by decide];simp
  unfold Oper.wp;simp[execOp,ho,hx,hrun,Result.andThen];exact hK _ _ (K _ (heap_alloc_new w _) (aF.alloc ah _))
theorem bo (hgd:o.guard=none)(s x:Operand)(t:TypeId)(ho:o.op= .call {callee:= .builtin .append,args:= #[s,x],argTypes:= #[t,t]})
 (base:Nat)(e:TypeId)(i0:TypeInfo)(z:Value)(hT:P.underlying t=some (.slice e))(hI:Hid (P.info? e=some i0/\i0.zero=some z/\i0.size=2/\i0.bytes=32/\z.cells.size=2))
 (v:Value)(n:Nat)(rs:List Rec)(hs:a.eval s=v)(hown:w.ownsRow base e 2 v n (aW rs))
 (b:Nat)(r:Rec)(hx:a.eval x= .slice (some ⟨b,0,none⟩) 1 1)(hb:w.heap[b]? =some (.cells #[.string r.1,.string r.2] e (0,0)))(h47:n<=1000000)(hbase:base<=w.heap.size)
 (K:∀v' w',w'.ownsRow base e 2 v' (n+1) (aW (rs++ [r]))->Below base w w'-> (∀k,k<w.heap.size->some k≠v.ownBlock->w'.heap[k]? =w.heap[k]?)->wpList P ops Q rest (a.put o.dst v') w') :wpList P ops Q (o::rest) a w:=by
 refine wpList_append_own _ hgd s x t ho base e i0 z 2 32 hT hI.out.1 hI.out.2.1 hI.out.2.2.1 hI.out.2.2.2.1 hI.out.2.2.2.2 (by decide) v n _ hs hown ⟨b,0,none⟩ 1 1 [.string r.1,.string r.2] hx rfl ?_ ?_ (by unfold maxLen;omega) (by omega) hbase ?_
 ·intro j u hj;rw[dC,Nat.zero_add,World.cell?,hb]
  match j,hj with
  |0,hj=>simpa using hj
  |1,hj=>simpa using hj
  |j+2,hj=>simp at hj
 ·intro u hu;simp at hu;rcases hu with rfl|rfl<;>rfl
 ·intro v' w' h1 h2 _;exact K v' w' (by rw[sE];exact h1) (aF.grown h2 hbase (ze hown)) (fun k hk hr=>h2.block k hk hr)
end
end Go.Proofs.YtcjagakckffkiaaGreatDoor.bL
namespace Go.Proofs.YtcjagakckffkiaaGreatDoor
open Go.RowKit
section
variable {P:Program} {w:World} {ops:Array Oper} {o:Oper} {a:Act} {Q:Exit->Act->World->Prop} {K:Act->World->Prop} {E:Prop}
theorem cT (hgd:o.guard=none)(T:TypeId)(ho:o.op= .alloc T)(vs:List Value)(hz: (P.info? T).map (·.zero) =some (some (.agg vs.toArray)))
 (k:∀w',ak w' w.heap.size T vs->Below w.heap.size w w'->K (a.put o.dst (.pointer (some ⟨w.heap.size,0,none⟩))) w') :
 if Region.wanted o (yielded ops a.tmps) =true then Oper.wp P o a w K Q else E:=by
 have hw:Region.wanted o (yielded ops a.tmps) =true:=by simp[Region.wanted,hgd]
 rw[if_pos hw]
 cases hq:P.info? T with
 |none=>simp[hq]at hz
 |some i=>
  simp[hq]at hz;unfold Oper.wp;simp[execOp,ho,Instr.alloc,zeroValue,typeInfo,hq,hz,newVar,newRow,Result.andThen,Value.cells];exact k _ (heap_alloc_new w _) (aF.alloc ah _)
theorem cR (hgd:o.guard=none)(T:TypeId)(x y:Operand)(ho:o.op= .store T x y)(g:Nat)(hx:a.eval x= .pointer (some ⟨g,0,none⟩))
 (vs old:List Value)(hy:a.eval y= .agg vs.toArray)(T':TypeId)(hg:ak w g T' old)(hs: (P.info? T).map (·.size) =some vs.length)(hl:old.length=vs.length)(h1:∀v∈vs,v.oneCell'=true)
 (k:∀w',ak w' g T' vs->dp w w' g->K (a.put o.dst undef) w') :
 if Region.wanted o (yielded ops a.tmps) =true then Oper.wp P o a w K Q else E:=by
 have hw:Region.wanted o (yielded ops a.tmps) =true:=by simp[Region.wanted,hgd]
 rw[if_pos hw];refine wp_store_row T x y ho g vs.toArray hx hy T' old.toArray hg (by simpa using hs) (by simpa using hl) ?_ ?_
 ·rw[Array.all_eq_true_iff_forall_mem];intro u hu;exact h1 u (by simpa using hu)
 ·exact k _ (setRow_heap w g _ _ T' _ hg) ⟨_,rfl⟩
end
end Go.Proofs.YtcjagakckffkiaaGreatDoor
namespace Go.Proofs.YtcjagakckffkiaaGreatDoor
open Go
theorem fN {P:Program}{md:Region.Mode}{ops:Array Oper}{Q:Exit->Act->World->Prop}{S S2:World->Prop}(hs:∀w,S2 w->S w) :
 ∀{fuel:Nat} {listed:Array Bool} {a:Act} {w:World},wpAnyH P md ops Q S2 fuel listed a w->wpAnyH P md ops Q S fuel listed a w
 |0,_,_,_,h=>h
 |_+1,_,_,_,h=>⟨h.1,fun i hi=>wpOp_mono (fun _ _ h'=>⟨hs _ h'.1,fN hs h'.2⟩) (h.2 i hi)⟩
end Go.Proofs.YtcjagakckffkiaaGreatDoor
namespace Go.Proofs.YtcjagakckffkiaaGreatDoor.Fit
open Go.RowKit bL Pnm
abbrev aR (k:Int)(p:ByteArray)(m:Int)(t:ByteArray)(s:Int) :List Value:= [.int .i64 k,.string p,.int .i64 m,.string t,.int .i64 s]
theorem Bt:ij Tryz.prog 68 5:=⟨⟨_,Tryz.underlying68⟩,by kernel_rfl⟩
theorem mJ:ij Tryz.prog 130 6:=⟨⟨_,Tryz.underlying130⟩,by kernel_rfl⟩
theorem aY (T:Int)(a b c:ByteArray)(m z:Int) :∀v∈Ust.bA T a b c m z,v.oneCell'=true:=by simp[Value.oneCell']
theorem bt (k:Int)(p:ByteArray)(m:Int)(t:ByteArray)(s:Int) :∀v∈aR k p m t s,v.oneCell'=true:=by simp[Value.oneCell']
theorem BU: (Tryz.prog.info? 130).map (·.zero) =some (some (.agg (Ust.cr).toArray)) :=by kernel_rfl
theorem Km: (Tryz.prog.info? 68).map (·.zero) =some (some (.agg (aR 0 emp 0 emp 0).toArray)) :=by kernel_rfl
theorem QO: (Tryz.prog.info? 9).map (·.size) =some 1:=by kernel_rfl
theorem Qe: (Tryz.prog.info? 2).map (·.size) =some 1:=by kernel_rfl
def qN (T:Int)(nm pf lk:ByteArray)(md sz:Int)(L:List Rec)(E:Int)(w:World)(e:Ending)(w':World) :Prop:=
 ∃b n c,e= .returned (.tuple #[.agg (Ust.bA T nm pf lk md sz).toArray,.slice b n c,.int .i64 E])/\L.length=n/\n<=c/\c<=maxLen/\bS w' b L/\Below w.heap.size w w'
theorem qN.nil {T:Int}{nm pf lk:ByteArray}{md sz:Int}{E:Int}{w w':World}(h:Below w.heap.size w w') :qN T nm pf lk md sz [] E w (.returned (.tuple #[.agg (Ust.bA T nm pf lk md sz).toArray,.slice none 0 0,.int .i64 E])) w':=
 ⟨none,0,0,rfl,rfl,ah,Nat.zero_le _,.inl rfl,h⟩
theorem qN.own {T:Int}{nm pf lk:ByteArray}{md sz:Int}{E:Int}{L:List Rec}{w w':World}{base n:Nat}{e:TypeId}{v:Value}(h:w'.ownsRow base e 2 v n (aW L))(hb:Below w.heap.size w w') :
 qN T nm pf lk md sz L E w (.returned (.tuple #[.agg (Ust.bA T nm pf lk md sz).toArray,v,.int .i64 E])) w':=by
 obtain⟨a,c,rfl,hn,hc,hm,hR,_⟩:=bS.bJ h;exact⟨a,n,c,rfl,hn.symm,hc,hm,hR,hb⟩
theorem ay {P:Program}{w:World}{fn:Func}{p q r:Tmp}{T:TypeId}{n:Nat}(h:fn.results= #[.cell p T,.tmp q,.tmp r])(hT:ij P T n)(tmps:Array Value)(g:Nat)(hp:tmps.getD p undef= .pointer (some ⟨g,0,none⟩))
 (T':TypeId)(vs:List Value)(hg:ak w g T' vs)(hl:vs.length=n) : (results fn tmps).run P w= .ok (.tuple #[.agg vs.toArray,tmps.getD q undef,tmps.getD r undef]) w:=by
 have hp':tmps[p]?.getD undef= .pointer (some ⟨g,0,none⟩) :=by simpa using hp
 simp[results,h,hp',asAddr,fh hT g T' vs hg hl]
end Go.Proofs.YtcjagakckffkiaaGreatDoor.Fit
namespace Go.Proofs.YtcjagakckffkiaaGreatDoor.Tre
open Go.RowKit Go.Proofs.YtcjagakckffkiaaGreatDoor.Fit
theorem Cm:ij Tryz.prog 77 6:=⟨⟨_,Tryz.underlying77⟩,by kernel_rfl⟩
theorem bE (k:Int)(p:ByteArray)(m:Int)(t:ByteArray)(a:Option Addr)(n cap:Nat)(c:Int) :∀v∈bq k p m t a n cap c,v.oneCell'=true:=by simp[Value.oneCell']
theorem Bm: (Tryz.prog.info? 77).map (·.zero) =some (some (.agg (bq 0 emp 0 emp none 0 0 0).toArray)) :=by kernel_rfl
theorem qD (k:Int)(p:ByteArray)(m:Int)(t:ByteArray)(a:Option Addr)(n cap:Nat)(c:Int)(w:World) :
 Calls Tryz.prog 88 #[.agg (bq k p m t a n cap c).toArray] w fun e w'=>e= .returned (.string p)/\Below w.heap.size w w':=by
 go_enter Tryz.func88,Tryz.ntmps88;go_wp2_with (first| (refine aj rfl 77 _ rfl (bq k p m t a n cap c) rfl ?_;intro w1 g1 b1;have B1:=ad b1;have c1:=g1.get 1 rfl;clear g1 b1));go_ret;exact⟨rfl,B1.out⟩
theorem kF (k:Int)(p:ByteArray)(m:Int)(t:ByteArray)(a:Option Addr)(n cap:Nat)(c:Int)(w:World) :
 Calls Tryz.prog 90 #[.agg (bq k p m t a n cap c).toArray] w fun e w'=>e= .returned (.int .i64 c)/\Below w.heap.size w w':=by
 go_enter Tryz.func90,Tryz.ntmps90;go_wp2_with (first| (refine aj rfl 77 _ rfl (bq k p m t a n cap c) rfl ?_;intro w1 g1 b1;have B1:=ad b1;have c1:=g1.get 5 rfl;clear g1 b1));go_ret;exact⟨rfl,B1.out⟩
theorem nD (x y:aL)(w:World)(hx:su w x)(hy:su w y) :
 Calls Tryz.prog 93 #[.agg (fy x).toArray,.agg (fy y).toArray] w fun e w'=>e= .returned (.bool (decide (x.n.m=y.n.m/\x.n.d=y.n.d)))/\Below w.heap.size w w':=by
 have HX:=ad hx.d.bytes;have HY:=ad hy.d.bytes;obtain⟨⟨k,p,m,t,d,c⟩,a,cap⟩:=x;obtain⟨⟨k',p',m',t',d',c'⟩,a',cap'⟩:=y;obtain⟨R,hR⟩:=named (decide (m=m'/\d=d'));have HE:=ad fun(w':World) (h:Below w.heap.size w w') =>tY a d.length cap d a' d'.length cap' d' w' (HX.out.below h) rfl (HY.out.below h) rfl;obtain⟨N,hN⟩:=named d.length;obtain⟨N',hN'⟩:=named d'.length;obtain⟨T,hT⟩:=named (decide (d=d'));show Calls _ _ #[.agg (bq k p m t a d.length cap c).toArray,.agg (bq k' p' m' t' a' d'.length cap' c').toArray] _ _;rw[<- hN.out,<- hN'.out]at HE⊢;rw[<- hT.out]at HE;show Calls _ _ _ _ fun e w'=>e= .returned (.bool (decide (m=m'/\d=d')))/\_;rw[<- hR.out];have HR:Hid (R= (decide (m=m') &&T)) :=by show _=_;rw[hR.out,hT.out,Bool.decide_and]
 clear hx hy HX HY hR hN hN' hT;by_cases h:m=m'
 ·subst h;have e:R=T:=by rw[HR.out,decide_eq_true rfl,Bool.true_and]
  subst e;clear HR;go_enter Tryz.func93,Tryz.ntmps93;go_wp2_with (first| (refine aj rfl 77 _ rfl (bq k p m t a N cap c) rfl ?_;intro w1 g1 b1;have G1:=ad g1;have B1:=ad b1;clear g1 b1) | (refine aj rfl 77 _ rfl (bq k' p' m t' a' N' cap' c') rfl ?_;intro w2 g2 b2;have c2:= (G1.out.below b2 G1.out.lt).get 2 rfl;have c4:= (G1.out.below b2 G1.out.lt).get 4 rfl;have d2:=g2.get 2 rfl;have d4:=g2.get 4 rfl;have B2:=ad (ar B1.out b2);clear g2 b2));refine(HE.out w2 B2.out).mono ?_;rintro e w3 ⟨rfl,rfl⟩;go_wp2;go_ret;exact⟨rfl,B2.out⟩
 ·have e:R=false:=by rw[HR.out,decide_eq_false h,Bool.false_and]
  have n1: (m==m') =false:=by simpa using h
  subst e;clear HR HE h;go_enter Tryz.func93,Tryz.ntmps93;go_wp2_with (first| (refine aj rfl 77 _ rfl (bq k p m t a N cap c) rfl ?_;intro w1 g1 b1;have G1:=ad g1;have B1:=ad b1;clear g1 b1) | (refine aj rfl 77 _ rfl (bq k' p' m' t' a' N' cap' c') rfl ?_;intro w2 g2 b2;have c2:= (G1.out.below b2 G1.out.lt).get 2 rfl;have c4:= (G1.out.below b2 G1.out.lt).get 4 rfl;have d2:=g2.get 2 rfl;have d4:=g2.get 4 rfl;have B2:=ad (ar B1.out b2);clear g2 b2));go_ret;exact⟨rfl,B2.out⟩
end Go.Proofs.YtcjagakckffkiaaGreatDoor.Tre
