import Derived.Test.YtcjagakckffkiaaGreatDoorS15
import Derived.Lib.AppendStr
set_option maxHeartbeats 16000000
set_option maxRecDepth 100000
namespace Go.Proofs.YtcjagakckffkiaaGreatDoor
namespace Pxr
open Go.RowKit
def DK (most:Int)(zs:List Int) :Int:=if ch zs=false then 0 else if most<dw zs then 0 else dw zs
def Dt (most:Int)(zs:List Int) :Int:=if ch zs=false then 6 else if most<dw zs then 3 else 0
theorem yG (s:ByteArray)(most:Int)(w:World)(hs:s.size<=maxLen)(h0:0<=most)(h1:most<=1099511627776) :Calls Tryz.prog 133 #[.string s,.int .i64 most] w fun e w'=>
 e= .returned (.tuple #[.int .i64 (DK most (ad s)),.int .i64 (Dt most (ad s))])/\w=w':=by
 unfold maxLen at hs;obtain⟨R,hR⟩:=named (DK most (ad s));obtain⟨E,hE⟩:=named (Dt most (ad s));rw[<- hR.out,<- hE.out];have FB:Hid (ch (ad s) =false->R=0/\E=6) :=fun h=>⟨by rw[hR.out];unfold DK;rw[if_pos h],by rw[hE.out];unfold Dt;rw[if_pos h]⟩;have FR:Hid (ch (ad s) =true->most<dw (ad s)->R=0/\E=3) :=fun h h'=>⟨by rw[hR.out];unfold DK;rw[h,if_neg (by decide),if_pos h'],by rw[hE.out];unfold Dt;rw[h,if_neg (by decide),if_pos h']⟩;have FG:Hid (ch (ad s) =true->¬most<dw (ad s)->R=dw (ad s)/\E=0) :=fun h h'=>⟨by rw[hR.out];unfold DK;rw[h,if_neg (by decide),if_neg h'],by rw[hE.out];unfold Dt;rw[h,if_neg (by decide),if_neg h']⟩;have HA:Hid (∀j (h:j<s.size),(ad s).getD j 0= (s[j].toNat:Int)) :=dC s;have NL:=aa (ah s);by_cases he:s= {data:= #[]}
 ·have Q:=aa (FB.out (by rw[he];rfl));have hi:s.toList.isEmpty=true:=by rw[he,ByteArray.toList_eq];rfl
  go_enter Tryz.func133,Tryz.ntmps133;go_wp2;go_ret2;rw[Q.out.1,Q.out.2];exact⟨rfl,rfl⟩
 ·have hp:0<s.size:=by
   rcases Nat.eq_zero_or_pos s.size with h|h
   ·exact absurd (bQ (by rw[List.length_eq_zero_iff.1 ((NL.out).trans h)];rfl)) he
   ·exact h
  have hi:=cE he;have hS0:Hid (s.size≠0) :=by show _≠_;omega
  have HP:=aa hp;go_enter Tryz.func133,Tryz.ntmps133;go_wp2;go_loop [6] (fun i=>∃j:Nat,i= .int .i64 j/\j<=s.size/\∀k,k<j->48<= (ad s).getD k 0/\ (ad s).getD k 0<=57) (fun i=>s.size- (intOf i).toNat)
  case atStart=>exact⟨0,rfl,Nat.zero_le _,fun k hk=>by omega⟩
  case round=>
   obtain⟨j,rfl,hj,(HD:Hid _)⟩:=hrel;by_cases hlt:j<s.size
   ·have hx:=HA.out j hlt;obtain⟨x,hxe⟩:∃x:Int,((s[j].toNat:Nat) :Int) =x:=⟨_,rfl⟩;rw[hxe]at hx;have HX:=aa hx;have m1: (j:Int) <s.size:=by omega
    by_cases c1:x<48
    ·have Q:=aa (FB.out (jq hlt (by rw[HX.out];omega)));go_wp2;go_ret2;rw[Q.out.1,Q.out.2];exact⟨rfl,rfl⟩
    ·by_cases c2:57<x
     ·have Q:=aa (FB.out (jq hlt (by rw[HX.out];omega)));go_wp2;go_ret2;rw[Q.out.1,Q.out.2];exact⟨rfl,rfl⟩
     ·go_wp2
      go_round
      case rel=>exact⟨j+1,by go_num,by omega,fun k hk=>by
       by_cases e:k=j
       ·rw[e,HX.out];omega
       ·exact HD.out k (by omega)⟩
      case measure=>simp[intOf];omega
   ·have m1:¬(j:Int) <s.size:=by omega
    obtain rfl:j=s.size:=by omega
    obtain⟨x,hxe⟩:∃x:Int,(((s[0]'hp).toNat:Nat) :Int) =x:=⟨_,rfl⟩;have hx:= (HA.out 0 hp).trans hxe;have HX:=aa hx;by_cases hz:x=48/\1<s.size
    ·have m2: (x==48) =true:=by rw[hz.1];rfl
     have m3: (1:Int) <s.size:=by omega
     have Q:=aa (FB.out (by
      rw[Bool.eq_false_iff];intro e;rw[iv,NL.out]at e;have:=e.2.2 (by rw[HX.out];exact hz.1);omega))
     go_wp2;go_ret2;rw[Q.out.1,Q.out.2];exact⟨rfl,rfl⟩
    ·have hok:Hid (ch (ad s) =true) :=tT HD.out hS0.out (by rw[HX.out];intro e;have:=HP.out;omega)
     have tests: ((x==48) =true/\¬(1:Int) <s.size)\/ (x==48) =false:=by
      by_cases c:x=48
      ·exact .inl ⟨by rw[c];rfl,by omega⟩
      ·exact .inr (by simpa using c)
     rcases tests with⟨m2,m3⟩|m2
     all_goals
      go_wp2;go_loop [7,8] (fun n i=>∃(j:Nat) (z:Int),i= .int .i64 j/\n= .int .i64 z/\j<=s.size/\Hid (z=dw ((ad s).take j))/\0<=z/\z<=most) (fun _ i=>s.size- (intOf i).toNat)
      case atStart=>exact⟨0,0,rfl,rfl,Nat.zero_le _,rfl,Int.le_refl _,h0⟩
      case round=>
       obtain⟨j,z,rfl,rfl,hj,HZ,z0,z1⟩:=hrel;by_cases hlt:j<s.size
       ·have hx:=HA.out j hlt;obtain⟨y,hye⟩:∃y:Int,((s[j].toNat:Nat) :Int) =y:=⟨_,rfl⟩;rw[hye]at hx;have hd:=HD.out j hlt;rw[hx]at hd;obtain⟨y0,y1⟩:=hd;have HY:=aa hx;have j1: (j:Int) <s.size:=by omega
        have HN:Hid (10*z+y- 48=dw ((ad s).take (j+1))) :=by
         show _=_;rw[gX _ _ (by rw[NL.out];exact hlt),HY.out];have:=HZ.out;omega
        have z2:z<=1099511627776:=by omega
        by_cases hm:most<10*z+y- 48
        ·have Q:=aa (FR.out hok.out (by have:=pv (ad s) (j+1);have:=HN.out;omega));go_wp2;go_ret2;rw[Q.out.1,Q.out.2];exact⟨rfl,rfl⟩
        ·go_wp2
         go_round
         case rel=>exact⟨j+1,_,by go_num,rfl,by omega,HN.out,by omega,by omega⟩
         case measure=>simp[intOf];omega
       ·obtain rfl:j=s.size:=by omega
        have j1:¬(s.size:Int) <s.size:=by omega
        have hz:=HZ.out;rw[List.take_of_length_le (by rw[NL.out];exact aj)]at hz;have Q:=aa (FG.out hok.out (by omega));have HZ2:=aa hz;go_wp2;go_ret2;rw[Q.out.1,Q.out.2,<- HZ2.out];exact⟨rfl,rfl⟩
theorem yF (v:ByteArray) :Dt 1099511627776 (ad v) =nW v:=by
 unfold Dt nW;by_cases h:ch (ad v) =false
 ·rw[if_pos h,if_pos h]
 ·rw[if_neg h,if_neg h];by_cases h2:1099511627776<dw (ad v)
  ·rw[if_pos h2,if_pos (by omega)]
  ·rw[if_neg h2,if_neg (by omega)]
theorem cv (k v:ByteArray)(w:World)(hv:v.size<=maxLen) :Calls Tryz.prog 118 #[.agg #[.string k,.string v]] w fun e w'=>e= .returned (.int .i64 (cA (k,v)))/\Below w.heap.size w w':=by
 have HV:=aa hv;unfold maxLen at hv;obtain⟨R,hR⟩:=named (cA (k,v));rw[<- hR.out];have b0:Hid (Below w.heap.size w (w.alloc (.cells #[.string k,.string v] 202))) := (Below.refl _ w).alloc aj _;have hd:=hR.out;unfold cA at hd;dsimp only at hd;by_cases h1:k=aM\/k=aG
 ·rw[if_pos h1]at hd
  have tests: (k.toList== [108,105,110,107,112,97,116,104]) =true\/ ((k.toList== [108,105,110,107,112,97,116,104]) =false/\ (k.toList== [112,97,116,104]) =true) :=by
   obtain⟨t0,t1,_⟩:=eA k _ _ _ rfl rfl rfl;rw[t0,t1];rcases h1 with rfl|rfl
   ·exact .inl (by decide)
   ·exact .inr (by decide)
  clear h1 hR;have HA:Hid (∀j (h:j<v.size),(ad v).getD j 0= (v[j].toNat:Int)) :=dC v;have NL:=aa (ah v);by_cases h2:65536<v.size
  ·have m1: (65536:Int) <v.size:=by omega
   have e:=aa (hd.trans (by unfold eo;rw[if_pos h2]));clear hd h2;rcases tests with t0|⟨t0,t1⟩
   all_goals
    go_enter Tryz.func118,Tryz.ntmps118;go_wp2;go_ret;exact⟨by rw[e.out];rfl,b0.out⟩
  ·have m1:¬(65536:Int) <v.size:=by omega
   have HD:=aa hd;have H2:=aa h2;clear hd h2;rcases tests with t0|⟨t0,t1⟩
   all_goals
    go_enter Tryz.func118,Tryz.ntmps118;go_wp2;go_loop [3] (fun i=>∃j:Nat,i= .int .i64 j/\j<=v.size/\∀x,x<j-> (ad v).getD x 0≠0) (fun i=>v.size- (intOf i).toNat)
    case atStart=>exact⟨0,rfl,Nat.zero_le _,fun x hx=>by omega⟩
    case round=>
     obtain⟨j,rfl,hj,(HN:Hid _)⟩:=hrel;by_cases hlt:j<v.size
     ·have hx:=HA.out j hlt;obtain⟨x,hxe⟩:∃x:Int,((v[j].toNat:Nat) :Int) =x:=⟨_,rfl⟩;rw[hxe]at hx;have HX:=aa hx;have j1: (j:Int) <v.size:=by omega
      clear hx;by_cases hz:x=0
      ·have m2: (x==0) =true:=by rw[hz];rfl
       have hmem: (0:Int)∈ad v:=by
        have:=HX.out;rw[hz,List.getD_eq_getElem?_getD,List.getElem?_eq_getElem (by rw[NL.out];exact hlt)]at this;exact this▸List.getElem_mem _
       have e:=aa (HD.out.trans (by unfold eo;rw[if_neg H2.out,if_pos (.inr hmem)]));clear hz hmem;go_wp2;go_ret;exact⟨by rw[e.out];rfl,b0.out⟩
      ·have m2: (x==0) =false:=by simpa using hz
       have HZ:=aa hz;clear hz;go_wp2
       go_round
       case rel=>exact⟨j+1,by go_num,by omega,fun y hy=>by
        by_cases e:y=j
        ·rw[e,HX.out];exact HZ.out
        ·exact HN.out y (by omega)⟩
       case measure=>simp[intOf];omega
     ·obtain rfl:j=v.size:=by omega
      have j1:¬(v.size:Int) <v.size:=by omega
      have hno: (0:Int)∉ad v:=fun h=>by
       obtain⟨y,hy,e⟩:=List.getElem_of_mem h;apply HN.out y (by rw[NL.out]at hy;exact hy);rw[List.getD_eq_getElem?_getD,List.getElem?_eq_getElem hy,e];rfl
      clear hlt;by_cases he:v= {data:= #[]}
      ·have hi:v.toList.isEmpty=true:=by rw[he,ByteArray.toList_eq];rfl
       have e:=aa (HD.out.trans (by unfold eo;rw[if_neg H2.out,if_pos (.inl (by rw[he];rfl))]));clear he hno;go_wp2;go_ret;exact⟨by rw[e.out];rfl,b0.out⟩
      ·have hi:=cE he;have hs0:v.size≠0:=fun e=>he (bQ (by rw[List.length_eq_zero_iff.1 ((ah v).trans e)];rfl));have e:=aa (HD.out.trans (by unfold eo;rw[if_neg H2.out,if_neg (fun h=>h.elim hs0 hno)]));clear he hno hs0;go_wp2;go_ret;exact⟨by rw[e.out];rfl,b0.out⟩
 ·rw[if_neg h1]at hd
  have t01: (k.toList== [108,105,110,107,112,97,116,104]) =false/\ (k.toList== [112,97,116,104]) =false:=by
   obtain⟨t0,t1,_⟩:=eA k _ _ _ rfl rfl rfl;rw[t0,t1];exact⟨decide_eq_false (fun h=>h1 (.inl h)),decide_eq_false (fun h=>h1 (.inr h))⟩
  obtain⟨t0,t1⟩:=t01;by_cases h2:k=aL
  ·rw[if_pos h2]at hd;have t2:= (eA k _ _ _ rfl rfl rfl).2.2;rw[decide_eq_true h2]at t2;have N:=yG v 1099511627776;rw[yF,<- hd]at N;have HN:=aa fun w'=>N w' HV.out (by decide) (by decide);obtain⟨q,hq⟩:=named (DK 1099511627776 (ad v));rw[<- hq.out]at HN;clear hR hd h1 h2 N;go_enter Tryz.func118,Tryz.ntmps118;go_wp2_with fail;refine(HN.out _).mono ?_;rintro e w1 ⟨rfl,rfl⟩;go_wp2;go_ret;exact⟨rfl,b0.out⟩
  ·rw[if_neg h2]at hd;have t2:= (eA k _ _ _ rfl rfl rfl).2.2;rw[decide_eq_false h2]at t2;have HD:=aa hd;clear hR hd h1 h2;go_enter Tryz.func118,Tryz.ntmps118;go_wp2;go_ret;exact⟨by rw[HD.out];rfl,b0.out⟩
theorem vR (k v:ByteArray)(w:World)(h:lx (k,v)<=1000000) :Calls Tryz.prog 177 #[.agg #[.string k,.string v]] w fun e w'=>e= .returned (.int .i64 (kd (k,v) :Nat))/\Below w.heap.size w w':=by
 obtain⟨R,hR⟩:=named ((kd (k,v) :Nat) :Int);rw[<- hR.out];obtain⟨O,hO⟩:=named (lx (k,v));rw[<- hO.out]at h;have hO':=hO.out;unfold lx at hO';dsimp only at hO';have b1: (k.size:Int)<=1000000:=by omega
 have b2: (v.size:Int)<=1000000:=by omega
 have HRR:Hid (R= ((rX O:Nat) :Int)) :=by show _=_;rw[hR.out];unfold kd;rw[<- hO.out]
 have HO:Hid ((k.size:Int) + (v.size:Int) +3= (O:Int)) :=by show _=_;omega
 have b0:Hid (Below w.heap.size w (w.alloc (.cells #[.string k,.string v] 202))) := (Below.refl _ w).alloc aj _;have HL:=aa h;have HBD:=aa (tn h);go_enter Tryz.func177,Tryz.ntmps177;go_wp2;go_loopw [4] (fun d wr=>∃(z:Int) (m:Nat),d= .int .i64 z/\Hid (z=m/\O+1<=m/\m<=rX O)/\0<=z/\z<=1000100/\Below w.heap.size w wr) (fun d _=>1000101- (intOf d).toNat)
 case atStart=>exact⟨_,O+1,rfl,⟨by have:=HO.out;omega,aj,HBD.out.1⟩,by omega,by have:=HO.out;have:=HL.out;omega,b0.out⟩
 case round=>
  obtain⟨z,m,rfl,hm,z0,z1,(HB:Hid _)⟩:=hrel;have I:=jL m (by have:=hm.out.1;omega) wr;rw[<- hm.out.1]at I;obtain⟨T,hT⟩:=named (strOfNums (cy m));rw[<- hT.out]at I;have HI:=aa I;have HTS:Hid (T.size=Lib.nDigits m) :=by show _=_;rw[hT.out,iB]
  have ts: (T.size:Int)<=10:=by
   have:=dq 7 m (by have: (10:Nat) ^ (7+1) =100000000:=by decide
                    have:=hm.out.1;omega)
   have:=HTS.out;omega
  by_cases ht:Lib.nDigits m+O=m
  ·have q1: ((T.size:Int) + ((k.size:Int) + (v.size:Int) +3) !=z) =false:=by
    have:=HTS.out;have:=HO.out;have:=hm.out.1;simp;omega
   have HE:Hid (R=z) :=by
    show _=_;rw[HRR.out,hm.out.1];have h1:=vX HL.out ht;have h2:=hm.out.2.2;omega
   go_wp2_with fail;refine HI.out.mono ?_;rintro e w1 ⟨rfl,(B3:Hid _)⟩;go_wp2;go_ret;exact⟨by rw[HE.out];rfl,HB.out.trans (B3.out.mono HB.out.size)⟩
  ·have q1: ((T.size:Int) + ((k.size:Int) + (v.size:Int) +3) !=z) =true:=by
    have:=HTS.out;have:=HO.out;have:=hm.out.1;simp;omega
   have HM:Hid (m+1<=rX O) :=by
    show _<=_;have h1:=uL HL.out;have h2:=hm.out.2.2;rcases Nat.lt_or_ge m (rX O)with h|h
    ·exact h
    ·exact absurd (by rw[show rX O=m by omega]at h1;exact h1) ht
   have z2:z+1<=1000100:=by have:=HM.out;have:=HBD.out;have:=HL.out;have:=hm.out.1;omega
   go_wp2_with fail;refine HI.out.mono ?_;rintro e w1 ⟨rfl,(B3:Hid _)⟩;go_wp2;go_roundw
   case rel=>exact⟨z+1,m+1,rfl,⟨by have:=hm.out.1;omega,by have:=hm.out;omega,HM.out⟩,by omega,z2,HB.out.trans (B3.out.mono HB.out.size)⟩
   case measure=>simp[intOf];omega
end Pxr
section
open Go.RowKit Go.Lib
theorem om (s:ByteArray) :strCells s= (ad s).map (.int .u8) :=by
 unfold strCells;rw[cn,List.map_map];rfl
theorem mX {w:World}{base n size:Nat}{e:TypeId}{v:Value}{xs:List Value}(h:w.ownsRow base e size v n xs) :∀k,v.ownBlock=some k->base<=k/\k<w.heap.size:=by
 intro k hk;rcases h.2 with⟨h',_⟩|⟨g',cap',cur,hv,hb',hh,_⟩
 ·rw[h']at hk;cases hk
 ·rw[hv]at hk;obtain rfl:g'=k:=by simpa [Value.ownBlock]using hk
  exact⟨hb',(Array.getElem?_eq_some_iff.1 hh).1⟩
section
variable {P:Program} {w:World} {ops:Array Oper} {o:Oper} {a:Act} {Q:Exit->Act->World->Prop}
theorem lA {K:Act->World->Prop}{E:Prop}(hgd:o.guard=none)(s x:Operand)(t u:TypeId)
 (ho:o.op= .call {callee:= .builtin .append,args:= #[s,x],argTypes:= #[t,u]})
 (base:Nat)(e:TypeId)(i0:TypeInfo)(hT:P.underlying t=some (.slice e))(hU:P.underlying u=some .string)(hI:Hid (P.info? e=some i0/\i0.zero=some (.int .u8 0)/\i0.size=1/\i0.bytes=1))
 (v:Value)(n:Nat)(zs:List Int)(hs:a.eval s=v)(hown:w.ownsRow base e 1 v n (zs.map (.int .u8)))(str:ByteArray)(hx:a.eval x= .string str)(h47:n+str.size<=140737488355328)(hbase:base<=w.heap.size)
 (h:∀v' w',w'.ownsRow base e 1 v' (n+str.size) ((zs++ad str).map (.int .u8))->Below base w w'-> (∀k,k<w.heap.size->some k≠v.ownBlock->w'.heap[k]? =w.heap[k]?)->K (a.put o.dst v') w') :
 if Region.wanted o (yielded ops a.tmps) =true then Oper.wp P o a w K Q else E:=by
 have hw:Region.wanted o (yielded ops a.tmps) =true:=by simp[Region.wanted,hgd]
 rw[if_pos hw];obtain⟨v',w',hr,h1,h2,_⟩:=run_append_own_string (P:=P) (w:=w) base t u o.type e i0 hT hU hI.out.1 hI.out.2.1 hI.out.2.2.1 hI.out.2.2.2 v n _ hown str (by unfold maxLen;omega) h47 hbase;unfold Oper.wp;simp[execOp,ho,resolve,invoke,builtin,hs,hx,hr,Result.andThen];exact h v' w' (by rw[List.map_append,<- om];exact h1) (au.grown h2 hbase fun k hk=> (mX hown k hk).1) (fun k hk hr'=>h2.block k hk hr')
end
end
namespace Pxr
open Go.RowKit
def kP (zs:List Int)(E:Int)(w:World)(e:Ending)(w':World) :Prop:=
 ∃b m c,e= .returned (.tuple #[.slice b m c,.int .i64 E])/\zs.length=m/\m<=c/\c<=maxLen/\BytesIn w' b zs/\Below w.heap.size w w'
theorem kP.nil {E:Int}{w w':World}(h:Below w.heap.size w w') :kP [] E w (.returned (.tuple #[.slice none 0 0,.int .i64 E])) w':=
 ⟨none,0,0,rfl,rfl,aj,Nat.zero_le _,.inl rfl,h⟩
theorem kP.own {zs:List Int}{w w':World}{base:Nat}{e:TypeId}{v:Value}(h:w'.ownsRow base e 1 v zs.length (zs.map (.int .u8)))(hz:∀z∈zs,0<=z/\z<=255)(hb:Below w.heap.size w w') :
 kP zs 0 w (.returned (.tuple #[v,.int .i64 0])) w':=by
 rcases h.2 with⟨hv,h0⟩|⟨g,cap,cur,hv,_,hh,hc,hm,_⟩
 ·rw[hv];obtain rfl:zs= [] :=List.length_eq_zero_iff.1 h0;exact .nil hb
 ·subst hv;exact⟨_,_,cap,rfl,rfl,hc,hm,.bG h hz,hb⟩
theorem kl (r:Rec) :∀z∈pw r,0<=z/\z<=255:=by
 intro z hz;unfold pw at hz;simp only[List.mem_append,List.mem_singleton]at hz
 have hd:∀z∈cy (kd r),0<=z/\z<=255:=fun z hz=>by
  have:=fZ (kd r);rw[List.all_eq_true]at this;have:= (dD z).1 (this z hz);omega
 rcases hz with((((h|h) |h) |h) |h) |h
 ·exact hd z h
 ·omega
 ·exact cG _ z h
 ·omega
 ·exact cG _ z h
 ·omega
theorem pB (rs:List Rec) :∀z∈fJ rs,0<=z/\z<=255:=by
 intro z hz;unfold fJ at hz;obtain⟨l,hl,hz⟩:=List.mem_flatten.1 hz;obtain⟨r,_,rfl⟩:=List.mem_map.1 hl;exact kl r z hz
theorem tU (r:Rec) :strOfNums (cy (kd r)) ++ {data:= #[32]} ++r.1++ {data:= #[61]} ++r.2++ {data:= #[10]} =strOfNums (pw r) :=by
 apply bQ;rw[dZ,dZ,dZ,dZ,dZ,ak (kl r)];rw[ak (fun z hz=>kl r z (by unfold pw;simp[hz]))];rfl
theorem sL (a:Option Addr)(cap:Nat)(w:World) :Calls Tryz.prog 150 #[.slice a 0 cap] w (kP [] 0 w) :=by
 go_enter Tryz.func150,Tryz.ntmps150;go_wp2;go_loop [12] (fun i=>i= .int .i64 (0:Int)) (fun i=>0- (intOf i).toNat)
 case atStart=>rfl
 case round=>
  subst hrel;go_wp2;go_loop [7,28] (fun v i=>v= .slice none 0 0/\i= .int .i64 (0:Int)) (fun _ i=>0- (intOf i).toNat)
  case atStart=>exact⟨rfl,rfl⟩
  case round=>
   obtain⟨rfl,rfl⟩:=hrel;go_wp2;go_ret2;exact .nil au
theorem mn {rs:List Rec}{j:Nat}{r:Rec}(h:rs[j]? =some r) :gP (rs.take j) (rs.drop j) =if dV (rs.take j) r≠0 then dV (rs.take j) r else gP (rs.take (j+1)) (rs.drop (j+1)) :=by
 have hl:j<rs.length:= (List.getElem?_eq_some_iff.1 h).1;have hr:rs[j] =r:= (List.getElem?_eq_some_iff.1 h).2;rw[List.drop_eq_getElem_cons hl,gZ,hr,<- hr,<- List.take_succ_eq_append_getElem hl]
theorem sK (b off n cap:Nat)(rs:List Rec)(w:World)(V:gS w)(hv:∀r∈rs,r.2.size<=maxLen)(hn:rs.length=n)(hc:n<=cap)(hm:cap<=maxLen)(hlt:b<w.heap.size)(hR:iL w b off rs)(hE:gP [] rs≠0) :
 Calls Tryz.prog 150 #[.slice (some ⟨b,off,none⟩) n cap] w (kP [] (gP [] rs) w) :=by
 obtain⟨E,hEE⟩:=named (gP [] rs);rw[<- hEE.out]at hE⊢;have HR:=aa hR;have HN:=aa hn;have HVV:=aa V;have HSZ:=aa hv;have HLT:=aa hlt;have HM:=aa hm;have HC:=aa hc;have HZ:=aa Ev;have HO:=aa Eu;have HE:=aa hE;unfold maxLen at hm;clear hR hn V hv hlt hE;go_enter Tryz.func150,Tryz.ntmps150;go_wp2;go_loopw [12] (fun i wr=>∃j:Nat,i= .int .i64 j/\j<=n/\gP (rs.take j) (rs.drop j) =E/\Below w.heap.size w wr) (fun i _=>n- (intOf i).toNat)
 case atStart=>exact⟨0,rfl,Nat.zero_le _,by rw[hEE.out];rfl,au⟩
 case round=>
  obtain⟨j,rfl,hj,he,hb⟩:=hrel;have HEJ:=aa he;have HL:=aa hb;clear he hb;by_cases hjn:j<n
  ·obtain⟨r,hr⟩:=get_some (show j<rs.length by rw[HN.out];exact hjn);have hmem:r∈rs:=List.mem_of_getElem? hr;obtain⟨K,D⟩:=r;obtain⟨c0',c1'⟩:= (HR.out.below HL.out HLT.out) j _ hr;have c0:wr.cell? ⟨b,off+j*2,none⟩=some (.string K) :=c0';have c1:wr.cell? ⟨b,off+j*2+1,none⟩=some (.string D) :=c1';have j1: (j:Int) <n:=by omega
   have j2: (j:Int)<=cap:=by omega
   have hst:=mn hr;obtain⟨C,hC⟩:=named (dV (rs.take j) (K,D));rw[<- hC.out,HEJ.out]at hst;have HST:=aa hst;have LB:=aa (Nat.lt_of_lt_of_le HLT.out HL.out.size);have RT:=aa (HR.out.below HL.out HLT.out)
   have HCN:=aa fun(w':World) (hb:Below wr.heap.size wr w') =>
    (show Calls Tryz.prog 199 #[.slice (some ⟨b,off,none⟩) j cap,.agg #[.string K,.string D]] w' fun e w''=>e= .returned (.int .i64 C)/\Below w'.heap.size w' w'' by
      rw[hC.out];refine jE _ j cap (rs.take j) K D w' (HVV.out.go (ar HL.out hb)) (HSZ.out _ hmem) (by rw[List.length_take,HN.out];omega) (by omega) HM.out ?_;exact cW.take (.inr ⟨b,off,rfl,Nat.lt_of_lt_of_le LB.out hb.size,RT.out.below hb LB.out⟩) j)
   clear hst c0' c1' hr hmem hjn;go_wp2_with (first| (refine ag rfl 202 rfl rz HZ.out ?_;intro w2 g2 b2;have R2:=aa g2;have B2:=aa (ar HL.out b2);have A2:=aa b2;clear g2 b2) | (refine ae rfl 202 _ _ rfl wr.heap.size rfl [.string K,.string D] rz rfl 202 R2.out HO.out.2 rfl (pV _ _) ?_;intro w3 g3 t3;have R3:=aa g3;have A3:=aa (A2.out.trans (t3.below (Nat.le_refl wr.heap.size)));have B3:=aa (ar HL.out A3.out);clear g3 t3))
   have KC:Hid (∀w',Below w3.heap.size w3 w'->w'.cell? ⟨wr.heap.size,0,none⟩=some (.string K)/\w'.cell? ⟨wr.heap.size,1,none⟩=some (.string D)) :=fun w' hw=>by
    have h:=R3.out.below hw R3.out.lt;exact⟨h.get 0 rfl,h.get 1 rfl⟩
   have d0:∀q:Of (fun w'=>Below w3.heap.size w3 w'),q.w.cell? ⟨wr.heap.size,0,none⟩=some (.string K) :=fun q=> (KC.out _ q.h).1;have d1:∀q:Of (fun w'=>Below w3.heap.size w3 w'),q.w.cell? ⟨wr.heap.size,1,none⟩=some (.string D) :=fun q=> (KC.out _ q.h).2;have j3: (0:Int)<=j:=by omega
   clear c0 c1;go_simp;refine aq (S:=fun w'=>Below w3.heap.size w3 w') (by kernel_rfl) (by kernel_rfl) au.drew ?_;intro hne
   repeat (go_big_quiet_step ((go_at_call 199;exact Calls.dX (v:= .int .i64 C) (HCN.out _ (A3.out.trans (Below.mono (Of.h _) A3.out.size))) fun w' hb q=>q.trans (hb.mono q.size))))
   refine wpQuiet_nil ?_;rintro wq ⟨q,rfl⟩;have BQ:=aa (B3.out.trans (Below.mono q.h B3.out.size));by_cases hC0:C=0
   ·have H2:Hid (gP (rs.take (j+1)) (rs.drop (j+1)) =E) :=by
     show _=_;rw[HST.out,if_neg (by simpa using hC0)]
    subst hC0;go_wp2;go_roundw
    case rel=>exact⟨j+1,by go_num,by omega,H2.out,BQ.out⟩
    case measure=>simp[intOf];omega
   ·have H2:Hid (E=C) :=by show _=_;rw[HST.out,if_pos hC0]
    have q4: (C !=0) =true:=by simpa using hC0
    clear hC0;go_wp2;go_ret2;rw[H2.out];exact .nil BQ.out
  ·exfalso;have h:=HEJ.out;rw[List.drop_eq_nil_of_le (by rw[HN.out];omega)]at h;exact HE.out h.symm
theorem qW (b off n cap:Nat)(rs:List Rec)(w:World)(V:gS w)(hv:∀r∈rs,r.2.size<=maxLen)(hn:rs.length=n)(hc:n<=cap)(hm:cap<=maxLen)(hlt:b<w.heap.size)(hR:iL w b off rs)(hE:gP [] rs=0) :
 Calls Tryz.prog 150 #[.slice (some ⟨b,off,none⟩) n cap] w (kP (fJ rs) 0 w) :=by
 obtain⟨E,hEE⟩:∃E:Int,Hid (E=0) :=⟨0,Eq.refl (0:Int)⟩;have HFM:=aa hE;have HGD:=aa (ml rs [] hE);have HLE:=aa (sF hE);obtain⟨i0,hI⟩:=dx (P:=Tryz.prog) (e:=5) (by kernel_rfl);have HR:=aa hR;have HN:=aa hn;have HVV:=aa V;have HSZ:=aa hv;have HLT:=aa hlt;have HM:=aa hm;have HC:=aa hc;have HZ:=aa Ev;have HO:=aa Eu;unfold maxLen at hm;clear hR hn V hv hlt;rw[<- hEE.out]at hE;have HE:=aa hE;clear hE;go_enter Tryz.func150,Tryz.ntmps150;go_wp2;go_loopw [12] (fun i wr=>∃j:Nat,i= .int .i64 j/\j<=n/\gP (rs.take j) (rs.drop j) =E/\Below w.heap.size w wr) (fun i _=>n- (intOf i).toNat)
 case atStart=>exact⟨0,rfl,Nat.zero_le _,by rw[<- HE.out];rfl,au⟩
 case round=>
  obtain⟨j,rfl,hj,he,hb⟩:=hrel;have HEJ:=aa he;have HL:=aa hb;clear he hb;by_cases hjn:j<n
  ·obtain⟨r,hr⟩:=get_some (show j<rs.length by rw[HN.out];exact hjn);have hmem:r∈rs:=List.mem_of_getElem? hr;obtain⟨K,D⟩:=r;obtain⟨c0',c1'⟩:= (HR.out.below HL.out HLT.out) j _ hr;have c0:wr.cell? ⟨b,off+j*2,none⟩=some (.string K) :=c0';have c1:wr.cell? ⟨b,off+j*2+1,none⟩=some (.string D) :=c1';have j1: (j:Int) <n:=by omega
   have j2: (j:Int)<=cap:=by omega
   have hst:=mn hr;obtain⟨C,hC⟩:=named (dV (rs.take j) (K,D));rw[<- hC.out,HEJ.out]at hst;have HST:=aa hst;have LB:=aa (Nat.lt_of_lt_of_le HLT.out HL.out.size);have RT:=aa (HR.out.below HL.out HLT.out)
   have HCN:=aa fun(w':World) (hb:Below wr.heap.size wr w') =>
    (show Calls Tryz.prog 199 #[.slice (some ⟨b,off,none⟩) j cap,.agg #[.string K,.string D]] w' fun e w''=>e= .returned (.int .i64 C)/\Below w'.heap.size w' w'' by
      rw[hC.out];refine jE _ j cap (rs.take j) K D w' (HVV.out.go (ar HL.out hb)) (HSZ.out _ hmem) (by rw[List.length_take,HN.out];omega) (by omega) HM.out ?_;exact cW.take (.inr ⟨b,off,rfl,Nat.lt_of_lt_of_le LB.out hb.size,RT.out.below hb LB.out⟩) j)
   clear hst c0' c1' hr hmem hjn;go_wp2_with (first| (refine ag rfl 202 rfl rz HZ.out ?_;intro w2 g2 b2;have R2:=aa g2;have B2:=aa (ar HL.out b2);have A2:=aa b2;clear g2 b2) | (refine ae rfl 202 _ _ rfl wr.heap.size rfl [.string K,.string D] rz rfl 202 R2.out HO.out.2 rfl (pV _ _) ?_;intro w3 g3 t3;have R3:=aa g3;have A3:=aa (A2.out.trans (t3.below (Nat.le_refl wr.heap.size)));have B3:=aa (ar HL.out A3.out);clear g3 t3))
   have KC:Hid (∀w',Below w3.heap.size w3 w'->w'.cell? ⟨wr.heap.size,0,none⟩=some (.string K)/\w'.cell? ⟨wr.heap.size,1,none⟩=some (.string D)) :=fun w' hw=>by
    have h:=R3.out.below hw R3.out.lt;exact⟨h.get 0 rfl,h.get 1 rfl⟩
   have d0:∀q:Of (fun w'=>Below w3.heap.size w3 w'),q.w.cell? ⟨wr.heap.size,0,none⟩=some (.string K) :=fun q=> (KC.out _ q.h).1;have d1:∀q:Of (fun w'=>Below w3.heap.size w3 w'),q.w.cell? ⟨wr.heap.size,1,none⟩=some (.string D) :=fun q=> (KC.out _ q.h).2;have j3: (0:Int)<=j:=by omega
   clear c0 c1;go_simp;refine aq (S:=fun w'=>Below w3.heap.size w3 w') (by kernel_rfl) (by kernel_rfl) au.drew ?_;intro hne
   repeat (go_big_quiet_step ((go_at_call 199;exact Calls.dX (v:= .int .i64 C) (HCN.out _ (A3.out.trans (Below.mono (Of.h _) A3.out.size))) fun w' hb q=>q.trans (hb.mono q.size))))
   refine wpQuiet_nil ?_;rintro wq ⟨q,rfl⟩;have BQ:=aa (B3.out.trans (Below.mono q.h B3.out.size))
   have hC0:C=0:=by
    have h:=HST.out;by_cases hC0:C=0
    ·exact hC0
    ·rw[if_pos hC0,hEE.out]at h;exact h.symm
   have H2:Hid (gP (rs.take (j+1)) (rs.drop (j+1)) =E) :=by
    show _=_;rw[HST.out,if_neg (by simpa using hC0)]
   subst hC0;go_wp2;go_roundw
   case rel=>exact⟨j+1,by go_num,by omega,H2.out,BQ.out⟩
   case measure=>simp[intOf];omega
  ·have hj':j=n:=by omega
   clear hjn;have j9:¬(j:Int) <n:=by omega
   have HL0:=HL;clear HEJ;clear HL;go_wp2;clear j9 hj hj';go_loopw [7,28] (fun v i wr=>∃j:Nat,i= .int .i64 j/\j<=n/\wr.ownsRow w.heap.size 5 1 v (fJ (rs.take j)).length ((fJ (rs.take j)).map (.int .u8))/\Below w.heap.size w wr) (fun _ i _=>n- (intOf i).toNat)
   case atStart=>exact⟨0,rfl,Nat.zero_le _,⟨rfl,.inl ⟨rfl,rfl⟩⟩,HL0.out⟩
   case round=>
    obtain⟨j,rfl,hj,ho,hb⟩:=hrel;have HW:=aa ho;have HL:=aa hb;clear ho hb;by_cases hjn:j<n
    ·obtain⟨r,hr⟩:=get_some (show j<rs.length by rw[HN.out];exact hjn);have hmem:r∈rs:=List.mem_of_getElem? hr;obtain⟨K,D⟩:=r;have G:= (HGD.out _ hmem).1;obtain⟨c0',c1'⟩:= (HR.out.below HL.out HLT.out) j _ hr;have c0:wr.cell? ⟨b,off+j*2,none⟩=some (.string K) :=c0';have c1:wr.cell? ⟨b,off+j*2+1,none⟩=some (.string D) :=c1';have j1: (j:Int) <n:=by omega
     have gk:K.size<=8:=G.key;have gd:D.size<=65536:=G.val;have k1: (K.size:Int)<=8:=by omega
     have k2: (D.size:Int)<=65536:=by omega
     have go:lx (K,D)<=1000000:=by have:=G.lx;omega
     have gs:=G.sz
     have htake:rs.take (j+1) =rs.take j++ [(K,D)] :=by
      have hl:j<rs.length:= (List.getElem?_eq_some_iff.1 hr).1;rw[List.take_succ_eq_append_getElem hl,(List.getElem?_eq_some_iff.1 hr).2]
     have FT:Hid (fJ (rs.take (j+1)) =fJ (rs.take j) ++pw (K,D)) :=by show _=_;rw[htake,qR]
     have hle:=HLE.out (j+1);rw[FT.out,List.length_append,js go]at hle;obtain⟨T,hT⟩:=named (strOfNums (cy (kd (K,D))))
     have hts:T.size<=100:=by
      rw[hT.out,iB]
      have:=dq 6 (kd (K,D)) (by have: (10:Nat) ^ (6+1) =10000000:=by decide
                                omega)
      omega
     have s1:¬9223372036854775807<T.size+1:=by omega
     have s2:¬9223372036854775807<T.size+1+K.size:=by omega
     have s3:¬9223372036854775807<T.size+1+K.size+1:=by omega
     have s4:¬9223372036854775807<T.size+1+K.size+1+D.size:=by omega
     have s5:¬9223372036854775807<T.size+1+K.size+1+D.size+1:=by omega
     have HZL:=aa (show kd (K,D)<=9223372036854775807 by omega);have ES:Hid (T++ {data:= #[32]} ++K++ {data:= #[61]} ++D++ {data:= #[10]} =strOfNums (pw (K,D))) :=by show _=_;rw[hT.out];exact tU (K,D)
     have EL:Hid ((strOfNums (pw (K,D))).size=kd (K,D)) :=by show _=_;rw[<- ah,ak (kl _),js go]
     obtain⟨X,hX⟩:=named (fJ (rs.take j));obtain⟨M,hM⟩:=named (fJ (rs.take j)).length;have MX:Hid (M+kd (K,D)<=140737488355328) :=by show _<=_;rw[hM.out];omega
     rw[<- hM.out,<- hX.out]at HW;rw[<- hX.out]at FT hM;have LB:=aa (Nat.lt_of_lt_of_le HLT.out HL.out.size);have SA0:=aa fun(w':World) (hb:Below wr.heap.size wr w') =>yO K D w' (HVV.out.go (ar HL.out hb)) go;have IT0:=aa fun(w':World) (hb:Below wr.heap.size wr w') =>re (kd (K,D)) HZL.out w' (HVV.out.go (ar HL.out hb));rw[<- hT.out]at IT0
     have HNE:Hid (some wr.heap.size≠u7.ownBlock) :=fun e=>by
      have:= (mX HW.out _ e.symm).2;omega
     have GO:=aa go;clear c0' c1' hr hmem hjn G gk gd go gs htake hle hts;go_wp2_with (first| (refine ag rfl 202 rfl rz HZ.out ?_;intro w2 g2 b2;have R2:=aa g2;have B2:=aa (ar HL.out b2);have A2:=aa b2;clear g2 b2) | (refine ae rfl 202 _ _ rfl wr.heap.size rfl [.string K,.string D] rz rfl 202 R2.out HO.out.2 rfl (pV _ _) ?_;intro w3 g3 t3;have R3:=aa g3;have A3:=aa (A2.out.trans (t3.below (Nat.le_refl wr.heap.size)));have B3:=aa (ar HL.out A3.out);clear g3 t3));obtain⟨g,hg⟩:=named wr.heap.size;have W3:=aa (bB HW.out A3.out aj)
     have KC:Hid (∀w',Below w3.heap.size w3 w'->w'.cell? ⟨g,0,none⟩=some (.string K)/\w'.cell? ⟨g,1,none⟩=some (.string D)) :=fun w' hw=>by
      have h:=R3.out.below hw R3.out.lt;rw[hg.out];exact⟨h.get 0 rfl,h.get 1 rfl⟩
     have KT:Hid (∀w' w'':World,Below w3.heap.size w3 w'-> (∀k,k<w'.heap.size->some k≠u7.ownBlock->w''.heap[k]? =w'.heap[k]?)->w''.cell? ⟨g,0,none⟩=some (.string K)/\w''.cell? ⟨g,1,none⟩=some (.string D)) :=fun w' w'' hw hk=>by
      have h:=R3.out.below hw R3.out.lt;have h':an w'' wr.heap.size 202 [.string K,.string D] := (hk _ h.lt HNE.out).trans h;rw[hg.out];exact⟨h'.get 0 rfl,h'.get 1 rfl⟩
     have SA:=aa fun(w':World) (hb:Below w3.heap.size w3 w') =>SA0.out w' (A3.out.trans (hb.mono A3.out.size));have IT:=aa fun(w':World) (hb:Below w3.heap.size w3 w') =>IT0.out w' (A3.out.trans (hb.mono A3.out.size));clear c0 c1;go_simp;rw[<- hg.out];refine wp_region_held_drew (S:= (fun w'=>w'.cell? ⟨g,0,none⟩=some (.string K)/\w'.cell? ⟨g,1,none⟩=some (.string D))) (by kernel_rfl) (KC.out _ au.drew) (fun hHeld=>?_);refine aY 0 (h:=aY 1 (h:=aY 5 (h:=aY 6 (h:=?_))));simp only[Act.put,bw,bx,bz];refine aY 9 (h:=aY 10 (h:=?_));simp only[Act.put,bw,bx,bz];refine rd 2 fun K hK=>?_;go_simp;refine(SA.out _ au.drew).mono ?_;rintro e w7 ⟨rfl,b7⟩;have D7:Hid (Below w3.heap.size w3 w7) :=au.drew.trans b7;clear b7;go_wp2_with fail;refine hK.out _ _ (KC.out _ D7.out) (fun hHeld=>?_);clear hK K
     (try simp only[Act.put,bw,bx,bz])
     refine rd 3 fun K hK=>?_;go_simp;refine(IT.out _ D7.out).mono ?_;rintro e w8 ⟨rfl,b8⟩;have D8:=aa (ar D7.out b8);clear b8;go_wp2_with fail;refine hK.out _ _ (KC.out _ D8.out) (fun hHeld=>?_);clear hK K
     (try simp only[Act.put,bw,bx,bz])
     refine aY 4 (h:=aY 7 (h:=aY 8 (h:=aY 11 (h:=?_))));simp only[Act.put,bw,bx,bz];refine tk 12 ?_;simp only[Act.put,bw,bx,bz];refine rd 13 fun K hK=>?_;refine lA rfl (.tmp 32) (.tmp 44) 25 9 rfl w.heap.size 5 i0 Tryz.underlying25 Tryz.underlying9 hI u7 M X rfl (bB W3.out D8.out aj) _ rfl ?_ (Nat.le_trans B3.out.size D8.out.size) ?_
     ·have e:=ES.out;have h1:=EL.out;rw[e,h1];exact MX.out
     intro v9 w9 o9 b9 k9;have O9:=aa o9;have B9:=aa ((B3.out.trans (D8.out.mono B3.out.size)).trans b9);have K9:=aa k9;clear o9 b9 k9;refine hK.out _ _ (KT.out _ _ D8.out K9.out) (fun hHeld=>?_);clear hK K
     (try simp only[Act.put,bw,bx,bz])
     refine tk 14 ?_;simp only[Act.put,bw,bx,bz];refine wpAnyH_done (by kernel_rfl) ?_ _;go_wp2;go_roundw
     case rel=>
      refine⟨j+1,by go_num,by omega,?_,B9.out⟩;have h:=O9.out;rw[ES.out,EL.out,ak (kl _)]at h;rw[FT.out,List.length_append,<- hM.out,js GO.out];exact h
     case measure=>simp[intOf];omega
    ·have hj':j=n:=by omega
     subst hj';clear hjn;have j9:¬(j:Int) <j:=by omega
     have hX:rs.take j=rs:=List.take_of_length_le (by rw[HN.out];exact aj);rw[hX]at HW;go_wp2;go_ret2;exact .own HW.out (pB rs) HL.out
def xr (rs:List Rec) :List Int:=if gP [] rs=0 then fJ rs else []
theorem sJ (a:Option Addr)(n cap:Nat)(rs:List Rec)(w:World)(V:gS w)(hv:∀r∈rs,r.2.size<=maxLen)(hn:rs.length=n)(hc:n<=cap)(hm:cap<=maxLen)(hR:cW w a rs) :
 Calls Tryz.prog 150 #[.slice a n cap] w (kP (xr rs) (gP [] rs) w) :=by
 unfold xr;rcases hR with rfl|⟨b,off,rfl,hlt,hat⟩
 ·obtain rfl:n=0:=hn.symm;exact sL a cap w
 ·by_cases hE:gP [] rs=0
  ·rw[if_pos hE,hE];exact qW b off n cap rs w V hv hn hc hm hlt hat hE
  ·rw[if_neg hE];exact sK b off n cap rs w V hv hn hc hm hlt hat hE
end Pxr
end Go.Proofs.YtcjagakckffkiaaGreatDoor
