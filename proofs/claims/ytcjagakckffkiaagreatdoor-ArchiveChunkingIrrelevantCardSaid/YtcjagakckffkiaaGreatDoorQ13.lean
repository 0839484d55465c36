import Derived.Test.YtcjagakckffkiaaGreatDoorQ12
import Derived.Test.YtcjagakckffkiaaGreatDoorQ1
import Derived.Test.YtcjagakckffkiaaGreatDoorQ11
import Derived.Test.YtcjagakckffkiaaGreatDoorQ8
import Derived.MapKept
import Derived.Deep.CutRange
set_option maxHeartbeats 16000000
namespace Go.Proofs.YtcjagakckffkiaaGreatDoor.Pnm
open Go.RowKit
theorem PZ (s t:ByteArray)(w:World)(hs:s.size<=1000000)(ht:t.size<=1000000) :Calls Tryz.prog 173 #[.string s,.string t] w fun e w'=>e= .returned (.string (strOfNums (jO (af s) (af t))))/\Below w.heap.size w w':=by
 have h1: (s.size:Int)<=1000000:=by omega
 have h2: (t.size:Int)<=1000000:=by omega
 by_cases he:s= {data:= #[]}
 ·subst he;have e:jO (af {data:= #[]}) (af t) =af t:=rfl;rw[e,az];go_enter Tryz.func173,Tryz.ntmps173;go_wp2;go_ret;exact⟨rfl,aF⟩
 ·have hn:af s≠ [] :=fun h=>he (by have:=congrArg strOfNums h;rw[az]at this;rw[this];rfl)
  have e:jO (af s) (af t) =af (s++ {data:= #[47]} ++t) :=by
   unfold jO;rw[if_neg hn,fV,fV,List.append_assoc];rfl
  rw[e,az];have hne:s.toList.isEmpty=false:=ed he;clear hn e he hs ht;go_enter Tryz.func173,Tryz.ntmps173;go_wp2;go_ret;exact⟨rfl,aF⟩
theorem Mj (i n:Int)(w:World)(hi0:0<=i)(hin:i<n)(hn:n<=9223372036854775807)(B:Bool)(hB:B= (decide (1<=i) &&decide (i<=155) &&decide (1<=n- i- 1) &&decide (n- i- 1<=100))) :Calls Tryz.prog 196 #[.int .i64 i,.int .i64 n] w fun e w'=>e= .returned (.bool B)/\w=w':=by
 have w1:IntKind.i64.wrap (n- i) =n- i:=jJ (by omega) (by omega);have w2:IntKind.i64.wrap (n- i- 1) =n- i- 1:=jJ (by omega) (by omega);by_cases c1:1<=i
 ·by_cases c2:i<=155
  ·by_cases c3:1<=n- i- 1
   ·have e:=ad (show B=decide (n- i- 1<=100) by rw[hB,decide_eq_true c1,decide_eq_true c2,decide_eq_true c3];rfl);clear hB;go_enter Tryz.func196,Tryz.ntmps196;go_wp2;go_ret;exact⟨by rw[e.out];rfl,rfl⟩
   ·have e:=ad (show B=false by rw[hB,decide_eq_true c1,decide_eq_true c2,decide_eq_false c3];rfl);clear hB;go_enter Tryz.func196,Tryz.ntmps196;go_wp2;go_ret;exact⟨by rw[e.out];rfl,rfl⟩
  ·have e:=ad (show B=false by rw[hB,decide_eq_true c1,decide_eq_false c2];rfl);clear hB;go_enter Tryz.func196,Tryz.ntmps196;go_wp2;go_ret;exact⟨by rw[e.out];rfl,rfl⟩
 ·have e:=ad (show B=false by rw[hB,decide_eq_false c1];rfl);clear hB;go_enter Tryz.func196,Tryz.ntmps196;go_wp2;go_ret;exact⟨by rw[e.out];rfl,rfl⟩
set_option maxRecDepth 100000 in
theorem Oq (s:ByteArray)(w:World)(hs:s.size<=maxLen) :Calls Tryz.prog 146 #[.string s] w fun e w'=>e= .returned (.tuple #[.string (strOfNums (fI (af s))),.string (strOfNums (fJ (af s))),.bool (fX (af s))])/\Below w.heap.size w w':=by
 unfold maxLen at hs;obtain⟨P,hP⟩:=named (strOfNums (fI (af s)));obtain⟨N,hN⟩:=named (strOfNums (fJ (af s)));obtain⟨B,hB⟩:=named (fX (af s));rw[<- hP.out,<- hN.out,<- hB.out];have NL:=ad (an s);by_cases h1:s.size<=100
 ·have h1': (s.size:Int)<=100:=by omega
  have e1:Hid (P= {data:= #[]}/\N=s/\B=true) :=by
   show _/\_/\_;have hl: (af s).length<=100:=by rw[NL.out];exact h1
   refine⟨?_,?_,?_⟩
   ·rw[hP.out];unfold fI;rw[if_pos hl];rfl
   ·rw[hN.out];unfold fJ;rw[if_pos hl,az]
   ·rw[hB.out];unfold fX;rw[if_pos hl]
  clear h1;go_enter Tryz.func146,Tryz.ntmps146;go_wp2;go_ret3;obtain⟨q1,q2,q3⟩:=e1.out;rw[q1,q2,q3];exact⟨rfl,aF⟩
 ·have h1':¬(s.size:Int)<=100:=by omega
  have hl:¬(af s).length<=100:=by rw[NL.out];exact h1
  have FN:Hid ((∀k,¬jT (af s) k)->P= {data:= #[]}/\N= {data:= #[]}/\B=false) :=fun h=>by
   have e:=JU h;refine⟨?_,?_,?_⟩
   ·rw[hP.out];unfold fI;rw[if_neg hl,e];rfl
   ·rw[hN.out];unfold fJ;rw[if_neg hl,e];rfl
   ·rw[hB.out];unfold fX;rw[if_neg hl,e];rfl
  have FS:Hid (∀j,jT (af s) j-> (∀k,k<j->¬jT (af s) k)->P=s.extract 0 j/\N=s.extract (j+1) s.size/\B=true) :=fun j h h'=>by
   have e:=yC h h';refine⟨?_,?_,?_⟩
   ·rw[hP.out];unfold fI;rw[if_neg hl,e,iw];rfl
   ·rw[hN.out];unfold fJ;rw[if_neg hl,e,iw,List.take_of_length_le (by rw[List.length_drop,NL.out];exact ah)]
   ·rw[hB.out];unfold fX;rw[if_neg hl,e];rfl
  have HA:Hid (∀j (h:j<s.size),(af s).getD j 0= (s[j].toNat:Int)) :=je s;clear hP hN hB hl;go_enter Tryz.func146,Tryz.ntmps146;go_wp2_with fail;go_loopw [12] (fun i wr=>∃j:Nat,j<=s.size/\i= .int .i64 j/\ (∀k,k<j->¬jT (af s) k)/\wr=w) (fun i _=>s.size+1- (intOf i).toNat)
  case atStart=>exact⟨0,Nat.zero_le _,rfl,fun k hk h=>by omega,rfl⟩
  case round=>
   obtain⟨j,hj3,rfl,hn,rfl⟩:=hrel;have HNO:=ad hn;clear hn;by_cases l1:j<s.size
   ·have m1: (j:Int) <s.size:=by omega
    have hx:=HA.out j l1;obtain⟨x,hxe⟩:∃x:Int,((s[j].toNat:Nat) :Int) =x:=⟨_,rfl⟩;rw[hxe]at hx;by_cases hsf:jT (af s) j
    ·obtain⟨q1,q2,q3⟩:=FS.out j hsf HNO.out;obtain⟨a1,a2,a3,a4,a5⟩:=hsf;rw[NL.out]at a3 a4;have m3: (x==47) =true:=by rw[<- hx,a5];rfl
     have m6: (j:Int) +1<=s.size:=by omega
     have Q:=ad (And.intro q1 (And.intro q2 q3));have S:=ad (Mj j s.size wr (by omega) m1 (by omega) true (by rw[decide_eq_true (show(1:Int)<=j by omega),decide_eq_true (show(j:Int)<=155 by omega),decide_eq_true (show(1:Int)<= (s.size:Int) - j- 1 by omega),decide_eq_true (show(s.size:Int) - j- 1<=100 by omega)];rfl));clear hx q1 q2 q3 a1 a2 a3 a4 a5;go_wp2_with fail;refine S.out.mono ?_;rintro e w1 ⟨rfl,rfl⟩;go_wp2_with fail;go_quiet (fail);go_wp2;go_ret3;obtain⟨q1,q2,q3⟩:=Q.out;rw[q1,q2,q3];exact⟨rfl,aO _ _ _⟩
    ·have HN1:Hid (∀k,k<j+1->¬jT (af s) k) :=fun k hk=>by
      by_cases e:k=j
      ·rw[e];exact hsf
      ·exact HNO.out k (by omega)
     by_cases c1:x=47
     ·have m3: (x==47) =true:=by rw[c1];rfl
      have S:=ad (Mj j s.size wr (by omega) m1 (by omega) false (by
       symm
       rcases Bool.eq_false_or_eq_true (decide ((1:Int)<=j) &&decide ((j:Int)<=155) &&decide ((1:Int)<= (s.size:Int) - j- 1) &&decide ((s.size:Int) - j- 1<=100))with h|h
       ·exfalso;simp only[Bool.and_eq_true,decide_eq_true_eq]at h;exact hsf ⟨by omega,by omega,by rw[NL.out];omega,by rw[NL.out];omega,by rw[hx];exact c1⟩
       ·exact h))
      clear hx hsf c1;go_wp2_with fail;refine S.out.mono ?_;rintro e w1 ⟨rfl,rfl⟩;go_wp2_with fail;go_roundw
      case rel=>exact⟨j+1,by omega,by go_num,HN1.out,trivial⟩
      case measure=>simp[intOf];omega
     ·have m3: (x==47) =false:=by simpa using c1
      clear hx hsf c1;go_wp2_with fail;go_roundw
      case rel=>exact⟨j+1,by omega,by go_num,HN1.out,trivial⟩
      case measure=>simp[intOf];omega
   ·obtain rfl:j=s.size:=by omega
    have e1:=ad (FN.out fun k hk=>if h:k<s.size then HNO.out k h hk else by have:=hk.2.2.1;rw[NL.out]at this;omega);go_wp2;go_ret3;obtain⟨q1,q2,q3⟩:=e1.out;rw[q1,q2,q3];exact⟨rfl,aF⟩
end Go.Proofs.YtcjagakckffkiaaGreatDoor.Pnm
namespace Go.Proofs.YtcjagakckffkiaaGreatDoor.Fit
open Go.RowKit bL Pnm
def il (e:dY) :Hd:=if dn e=0 then gr e else⟨0,emp,emp,emp,0,0⟩
def ur (e:dY) :List Rec:=if dn e=0 then gI e else []
abbrev CG (e:dY)(w:World) :Ending->World->Prop:=qN (il e).T (il e).nm (il e).pf (il e).lk (il e).md (il e).sz (ur e) (dn e) w
theorem Df {p:ByteArray}(h:¬fX (af p) =true) :strOfNums (fI (af p)) =emp/\strOfNums (fJ (af p)) =emp:=by
 rcases iH p with⟨a,_⟩|⟨a,_⟩|⟨_,a,b,_⟩
 ·exact absurd a h
 ·exact absurd a h
 ·rw[a,b];exact⟨rfl,rfl⟩
theorem jq {e:dY}(h:dn e=0) :il e=gr e/\ur e=gI e:=by unfold il ur;rw[if_pos h,if_pos h];exact⟨rfl,rfl⟩
theorem tA {e:dY}(h:dn e≠0) :il e=⟨0,emp,emp,emp,0,0⟩/\ur e= [] :=by unfold il ur;rw[if_neg h,if_neg h];exact⟨rfl,rfl⟩
theorem Ii (n:Nat)(hn:n<=9223372036854775807)(w:World)(V:iX w) :Calls Tryz.prog 147 #[.int .i64 (n:Int),.int .i64 10] w fun e w'=>e= .returned (.string (strOfNums (dq n)))/\Below w.heap.size w w':=by
 refine(Tryz.strconv_FormatInt_10 (n:Int) (by omega) (by omega) w V.Ir).mono ?_;rintro e w' ⟨rfl,k,os,rfl⟩;exact⟨by rw[Lib.itoa_nonneg,sl],qA w k os ah⟩
set_option maxRecDepth 100000 in
theorem JV (k:Int)(p:ByteArray)(m:Int)(t:ByteArray)(s:Int)(w:World)(E:Int)(h0: (E !=0) =true)
 (C1:Hid (∀w',Below w.heap.size w w'->Calls Tryz.prog 86 #[.agg (aR k p m t s).toArray] w' fun e w''=>e= .returned (.int .i64 E)/\Below w'.heap.size w' w'')) :
 Calls Tryz.prog 99 #[.agg (aR k p m t s).toArray] w (qN 0 emp emp emp 0 0 [] E w) :=by
 have HO:=ad mJ;have HZ:=ad BU;go_enter Tryz.func99,Tryz.ntmps99;go_wp2_with (first| (refine aj rfl 68 _ rfl (aR k p m t s) rfl ?_;intro w1 g1 b1;have H1:=ad g1;have B1:=ad b1;clear g1 b1) | (refine ag rfl 130 rfl Ust.cr HZ.out ?_;intro w2 g2 b2;have R2:=ad g2;have E2:=ad (H1.out.below b2 H1.out.lt);have B2:=ad (ar B1.out b2);have c0:=E2.out.get 0 rfl;have c1:=E2.out.get 1 rfl;have c2:=E2.out.get 2 rfl;have c3:=E2.out.get 3 rfl;have c4:=E2.out.get 4 rfl;clear g2 b2));refine(C1.out w2 B2.out).mono ?_;rintro e w3 ⟨rfl,b3⟩;have R3:=ad (R2.out.below b3 R2.out.lt);have B3:=ad (ar B2.out b3);have N1:Hid (w.heap.size<w1.heap.size) :=H1.out.lt;clear b3 c0 c1 c2 c3 c4;go_wp2_with (first| (refine ae rfl 130 _ _ rfl w1.heap.size rfl Ust.cr Ust.cr rfl 130 R3.out HO.out.2 rfl (aY _ _ _ _ _ _) ?_;intro w4 g4 t4;have R4:=ad g4;have T4:=ad t4;clear g4 t4));exact bodyPost_ret (ay Tryz.results99 HO.out _ w1.heap.size rfl _ Ust.cr R4.out rfl) rfl (.nil (B3.out.trans (T4.out.below (Nat.le_of_lt N1.out))))
theorem oW (e:dY)(w:World)(V:dF w)(hp:e.p.size<=maxLen)(ht:e.t.size<=maxLen) :Calls Tryz.prog 99 #[.agg (aR e.k e.p e.m e.t e.s).toArray] w (CG e w) :=by
 obtain⟨k,p,m,t,s⟩:=e;dsimp only at hp ht⊢;have C1:Hid (∀w',Below w.heap.size w w'->Calls Tryz.prog 86 #[.agg (aR k p m t s).toArray] w' fun e w''=>e= .returned (.int .i64 (dn ⟨k,p,m,t,s⟩))/\Below w'.heap.size w' w'') :=fun w' hb=>lV k p m t s w' (V.go hb) hp ht;by_cases h:dn ⟨k,p,m,t,s⟩=0
 ·have hok:=dB.1 h;rw[h]at C1;obtain⟨e1,e2⟩:=jq h;have KG:Hid (∀w',Below w.heap.size w w'->w'.cell? ⟨0,k.toNat,none⟩=some (.int .u8 (yf k))) :=fun w' hb=> (V.go hb).ty hok.k0 hok.k4;have C2:Hid (∀w',Calls Tryz.prog 146 #[.string p] w' fun e w''=>e= .returned (.tuple #[.string (strOfNums (fI (af p))),.string (strOfNums (fJ (af p))),.bool (fX (af p))])/\Below w'.heap.size w' w'') :=fun w'=>Pnm.Oq p w' hp
  have C3:Hid (∀w',Below w.heap.size w w'->Calls Tryz.prog 147 #[.int .i64 s,.int .i64 10] w' fun e w''=>e= .returned (.string (strOfNums (dq s.toNat)))/\Below w'.heap.size w' w'') :=fun w' hb=>by
   obtain⟨s0,s1,_⟩:=gV hok.sz;have:=Ii s.toNat (by dsimp only at s0 s1;omega) w' (V.go hb).v
   rwa [show((s.toNat:Nat) :Int) =s by dsimp only at s0;omega]at this
  unfold CG;rw[e1,e2,h];unfold gr gI Np Oc Pg;dsimp only;exact Jp k p m t s w _ _ _ _ _ (fX (af p)) _ _ hok.k0 hok.k4 KG C1 C2 C3 (fun h=>⟨(Df (by rw[h];decide)).2,(Df (by rw[h];decide)).1⟩) rfl rfl rfl
 ·obtain⟨e1,e2⟩:=tA h;unfold CG;rw[e1,e2];exact JV k p m t s w _ (by simpa using h) C1
end Go.Proofs.YtcjagakckffkiaaGreatDoor.Fit
namespace Go.Proofs.YtcjagakckffkiaaGreatDoor.Fit
open Go.RowKit bL Pnm
theorem FW (s:ByteArray)(w:World)(V:fb w)(hs:s.size<=281474976710656) :Calls Tryz.prog 209 #[.string s,.int .i64 10,.int .i64 64] w fun e w'=>∃x,e= .returned (.tuple #[.int .i64 (yH s),x])/\Below w.heap.size w w':=by
 obtain⟨_,⟨tp,p,h1⟩,⟨tq,q,h2⟩⟩:=V
 cases h:Lib.parseIntB 64 s.data.toList
 case ok v=>
  have e:yH s=v:=by unfold yH;rw[h]
  rw[e];refine(Tryz.strconv_ParseInt_10_at64_ok s (by omega) v h w).mono ?_;rintro e w' ⟨rfl,hw⟩;refine⟨_,rfl,?_⟩;rcases hw with rfl|⟨t,rfl⟩
  ·exact aF
  ·exact Lib.bytesWorld_below _ _ _
 case range=>
  have e:yH s=Lib.intSat 64 s.data.toList:=by unfold yH;rw[h]
  rw[e];refine(Tryz.strconv_ParseInt_10_at64_range_var s hs h tq q w h2).mono ?_;rintro e w' ⟨N,rfl,_,_,hb⟩;exact⟨_,rfl,hb⟩
 all_goals
  have e:yH s=0:=by unfold yH;rw[h]
  rw[e];refine(Tryz.strconv_ParseInt_10_at64_syntax_var s hs h tp p w h1).mono ?_;rintro e w' ⟨N,rfl,_,_,hb⟩;exact⟨_,rfl,hb⟩
def Ms (g:Nat)(vs:List Value)(w:World)(e:Ending)(w':World) :Prop:=e= .returned (.tuple #[])/\ak w' g 246 vs/\Out g (g+1) w w'
theorem sj {w:World}{g:Nat}(i:Nat)(v:Value) :Out g (g+1) w (w.setCell ⟨g,i,none⟩ v) :=Out.setCell (p:=⟨g,i,none⟩) (Out.refl g (g+1) w) ah (Nat.lt_succ_self _) v
theorem Cj (g:Nat)(k:Int)(p:ByteArray)(m:Int)(t:ByteArray)(s:Int)(v:ByteArray)(w:World)(hh:ak w g 246 (aR k p m t s)) :
 Calls Tryz.prog 174 #[.pointer (some ⟨g,0,none⟩),.string v] w (Ms g (aR k p m v s) w) :=by
 have H:=ad hh;have c0:=hh.get 3 rfl;have f0:=hh.frozen 3;clear hh;go_enter Tryz.func174,Tryz.ntmps174;go_wp2
 go_end0
 exact⟨rfl,H.out.set 3 _,sj _ _⟩
theorem Kj (g:Nat)(k:Int)(p:ByteArray)(m:Int)(t:ByteArray)(s:Int)(v:ByteArray)(w:World)(hh:ak w g 246 (aR k p m t s)) :
 Calls Tryz.prog 175 #[.pointer (some ⟨g,0,none⟩),.string v] w (Ms g (aR k v m t s) w) :=by
 have H:=ad hh;have c0:=hh.get 1 rfl;have f0:=hh.frozen 1;clear hh;go_enter Tryz.func175,Tryz.ntmps175;go_wp2
 go_end0
 exact⟨rfl,H.out.set 1 _,sj _ _⟩
theorem KU (g:Nat)(k:Int)(p:ByteArray)(m:Int)(t:ByteArray)(s:Int)(v:ByteArray)(w:World)(V:fb w)(hv:v.size<=281474976710656)(hh:ak w g 246 (aR k p m t s)) :
 Calls Tryz.prog 176 #[.pointer (some ⟨g,0,none⟩),.string v] w (Ms g (aR k p m t (yH v)) w) :=by
 have H:=ad hh;have HP:=ad (FW v w V hv);obtain⟨z,hz⟩:=named (yH v);rw[<- hz.out]at HP⊢;clear hh hz V hv;go_enter Tryz.func176,Tryz.ntmps176;go_wp2_with fail;refine HP.out.mono ?_;rintro e w1 ⟨x,rfl,b1⟩;have H1:=ad (H.out.below b1 H.out.lt);have c0:=H1.out.get 4 rfl;have f0:=H1.out.frozen 4;have O1:=ad (Out.aq (lo:=g) (hi:=g+1) b1 ah);clear b1;go_wp2
 go_end0
 exact⟨rfl,H1.out.set 4 _,O1.out.trans (sj _ _)⟩
def JZ (T:Int)(i:Value) :Prop:=∃j:Nat,i= .int .i64 j/\j<=4/\∀q:Nat,q<j->yf q≠T
theorem Jz (w:World)(xs:Array Value)(i:Nat)(hi:i<4)(z:Int)(hx:xs[i]? =some (.int .u8 z)) : (Instr.index 229 (.agg xs) (.int .i64 (i:Int))).run Tryz.prog w= .ok (.int .u8 z) w:=by
 have he: (Tryz.prog.info? 5).map (·.size) =some 1:=by kernel_rfl
 cases hq:Tryz.prog.info? 5 with
 |none=>simp[hq]at he
 |some j=>
  have hs:j.size=1:=by simpa [hq]using he
  simp[Instr.index,asIntOf,run_underlying Tryz.underlying229,hi,sizeOf,typeInfo,hq,hs,part,hx]
theorem Jy (j:Nat)(h:j<4) : (#[.int .u8 53,.int .u8 48,.int .u8 50,.int .u8 49] :Array Value)[j]? =some (.int .u8 (yf j)) :=by
 rcases(show j=0\/j=1\/j=2\/j=3 by omega)with rfl|rfl|rfl|rfl<;>rfl
theorem Pb {T:Int}{j:Nat}(h:j<4)(he:yf j=T) :Ln T=j:=by
 rw[<- he];exact LU (by omega) (by omega)
theorem Iy {T:Int}(h:∀q:Nat,q<4->yf q≠T) :Ln T= -1:=by
 have h0:=h 0 (by decide);have h1:=h 1 (by decide);have h2:=h 2 (by decide);have h3:=h 3 (by decide);have e0: (53:Int)≠T:=h0;have e1: (48:Int)≠T:=h1;have e2: (50:Int)≠T:=h2;have e3: (49:Int)≠T:=h3;unfold Ln;rw[if_neg (fun e=>e0 e.symm),if_neg (fun e=>e1 e.symm),if_neg (fun e=>e2 e.symm),if_neg (fun e=>e3 e.symm)]
set_option maxRecDepth 100000 in
theorem FK (T:Int)(w:World)(V:dF w) :Calls Tryz.prog 172 #[.int .u8 T] w fun e w'=>e= .returned (.int .i64 (Ln T))/\w=w':=by
 obtain⟨R,hR⟩:=named (Ln T);rw[<- hR.out];have hc:=V.Qf.cell yA;have c0:w.cell? ⟨0,0,none⟩=some (.int .u8 53) :=hc 0 (by decide);have c1:w.cell? ⟨0,1,none⟩=some (.int .u8 48) :=hc 1 (by decide);have c2:w.cell? ⟨0,2,none⟩=some (.int .u8 50) :=hc 2 (by decide);have c3:w.cell? ⟨0,3,none⟩=some (.int .u8 49) :=hc 3 (by decide);clear V hc;go_enter Tryz.func172,Tryz.ntmps172;go_wp2_with fail;clear c0 c1 c2 c3;go_loop [6] (fun i=>JZ T i) (fun i=>4- (intOf i).toNat)
 case atStart=>exact⟨0,rfl,by decide,fun q hq=>by omega⟩
 case round=>
  obtain⟨j,rfl,hj,hd⟩:=hrel;have HD:=ad hd;clear hd;by_cases hlt:j<4
  ·obtain⟨z,hz⟩:=named (yf j);have hix:=Jz w #[.int .u8 53,.int .u8 48,.int .u8 50,.int .u8 49] j hlt z (by rw[hz.out];exact Jy j hlt);have HZ:=hz;clear hz;have j1: (j:Int) <4:=by omega
   by_cases he:z=T
   ·subst he;have e:=hR.out;rw[Pb hlt HZ.out.symm]at e;subst e;clear hR;go_wp2;go_ret;exact⟨rfl,rfl⟩
   ·have n1: (z==T) =false:=by simpa using he
    have HE:=ad he;clear he;go_wp2
    go_round
    case rel=>exact⟨j+1,by go_num,by omega,fun q hq=>by
     by_cases h':q<j
     ·exact HD.out q h'
     ·obtain rfl:q=j:=by omega
      rw[<- HZ.out];exact HE.out⟩
    case measure=>simp[intOf];omega
  ·obtain rfl:j=4:=by omega
   have e:=hR.out;rw[Iy HD.out]at e;subst e;clear hR;go_wp2;go_ret;exact⟨rfl,rfl⟩
end Go.Proofs.YtcjagakckffkiaaGreatDoor.Fit
namespace Go.Proofs.YtcjagakckffkiaaGreatDoor
open Go.RowKit Go.MapKept
def fz (w:World)(g:Nat)(es:List (ByteArray×Value)) :Prop:=
 ∃(xs:Array MapEntry) (clk:Nat),w.heap[g]? =some (.map xs clk)/\xs.toList.map (fun e=> (e.key,e.val)) =es.map (fun e=> (.string e.1,e.2))
theorem fz.lt {w:World}{g:Nat}{es:List (ByteArray×Value)}(h:fz w g es) :g<w.heap.size:=by
 obtain⟨xs,clk,h,_⟩:=h;exact(Array.getElem?_eq_some_iff.1 h).1
theorem fz.block {w w':World}{g:Nat}{es:List (ByteArray×Value)}(h:fz w g es)(e:w'.heap[g]? =w.heap[g]?) :fz w' g es:=by
 obtain⟨xs,clk,h,h2⟩:=h;exact⟨xs,clk,e.trans h,h2⟩
theorem fz.below {w w':World}{B g:Nat}{es:List (ByteArray×Value)}(h:fz w g es)(hb:Below B w w')(hg:g<B) :fz w' g es:=h.block (hb.block g hg)
def gu (es:List (ByteArray×Value))(k:ByteArray) :Option Value:= (es.find? fun e=>decide (e.1=k)).map (·.2)
theorem Oo (k s:ByteArray) : (k==s) =decide (k=s) :=by
 by_cases h:k=s
 ·rw[decide_eq_true h];exact(bytes_beq _ _).2 h
 ·rw[decide_eq_false h]
  cases h': (k==s)with
  |true=>exact absurd ((bytes_beq _ _).1 h') h
  |false=>rfl
theorem rB (k:ByteArray) :∀(xs:List MapEntry) (es:List (ByteArray×Value)) (i:Nat),xs.map (fun e=> (e.key,e.val)) =es.map (fun e=> (.string e.1,e.2))->
 ∃r,Instr.findNow .string (.string k) xs i=some r/\r.map (·.2) =gu es k
 | [],[],_,_=>⟨none,rfl,rfl⟩
 | [],_::_,_,h=>by cases h
 |_::_,[],_,h=>by cases h
 |x::xs,e::es,i,h=>by
  simp only[List.map_cons,List.cons.injEq,Prod.mk.injEq]at h;obtain⟨⟨h1,h2⟩,h3⟩:=h;unfold Instr.findNow;rw[h1];simp only[Instr.sameNow,Oo];by_cases hk:k=e.1
  ·subst hk;rw[decide_eq_true rfl];exact⟨_,rfl,by unfold gu;rw[List.find?_cons_of_pos (by simp)];simp[h2]⟩
  ·rw[decide_eq_false hk];obtain⟨r,r1,r2⟩:=rB k xs es (i+1) h3;refine⟨r,r1,?_⟩;rw[r2];unfold gu;rw[List.find?_cons_of_neg (by simp;exact fun e=>hk e.symm)]
section
variable {P:Program} {w:World} {ops:Array Oper} {rest:List Oper} {o:Oper} {a:Act} {Q:Exit->Act->World->Prop}
theorem pL (hgd:o.guard=none)(T:TypeId)(ho:o.op= .makeMap T none)
 (K:∀w',fz w' w.heap.size []->Below w.heap.size w w'->wpList P ops Q rest (a.put o.dst (.map (some w.heap.size))) w') :wpList P ops Q (o::rest) a w:=by
 refine wpList_plain hgd fun K' hK=>?_;unfold Oper.wp;simp[execOp,ho,run_makeMap,Result.andThen];exact hK _ _ (K _ ⟨#[],0,heap_alloc_new w _,rfl⟩ (aF.alloc ah _))
theorem fm (hgd:o.guard=none)(T:TypeId)(m k x:Operand)(ho:o.op= .insert T m k x)(kt et:TypeId)(hT:P.underlying T=some (.map kt et))(hk:P.underlying kt=some .string)
 (g:Nat)(hm:a.eval m= .map (some g))(ks:ByteArray)(hks:a.eval k= .string ks)(v:Value)(hv:a.eval x=v)(es:List (ByteArray×Value))(hg:fz w g es)(hnew:gu es ks=none)
 (K:∀w',fz w' g (es++ [(ks,v)])->cX w w' g->wpList P ops Q rest (a.put o.dst undef) w') :wpList P ops Q (o::rest) a w:=by
 refine wpList_plain hgd fun K' hK=>?_;obtain⟨xs,clk,h1,h2⟩:=hg;obtain⟨r,r1,r2⟩:=rB ks xs.toList es 0 h2;rw[hnew]at r2
 obtain rfl:r=none:=by cases r with
  |none=>rfl
  |some z=>cases r2
 have hrun: (Instr.mapUpdate T (.map (some g)) (.string ks) v).run P w= .ok () {w with heap:=w.heap.setIfInBounds g (.map (xs.push {key:= .string ks,val:=v,born:=clk}) (clk+1))} :=by
  simp[Instr.mapUpdate,run_underlying hT,Go.MapKept.run_getObj_map h1,run_checkKey (w:=w) hk (show IsKey .string (.string ks)from trivial),run_findKey (w:=w) hk r1,Go.MapKept.run_setObj_map _ h1,Result.andThen]
 have hlt:g<w.heap.size:= (Array.getElem?_eq_some_iff.1 h1).1;unfold Oper.wp;simp[execOp,ho,hm,hks,hv,hrun,Result.andThen];refine hK _ _ (K _ ⟨xs.push {key:= .string ks,val:=v,born:=clk},clk+1,by simp[hlt],by simp[h2]⟩ ⟨fun hB=>⟨rfl,rfl,rfl,by simp,fun i hi=>?_⟩,fun{k} hkg=>?_,by simp⟩)
 ·show(w.heap.setIfInBounds g _)[i]? =w.heap[i]?;rw[Array.getElem?_setIfInBounds_ne (by omega)]
 ·show(w.heap.setIfInBounds g _)[k]? =w.heap[k]?;rw[Array.getElem?_setIfInBounds_ne (by omega)]
theorem mY (T kt et:TypeId)(hT:P.underlying T=some (.map kt et))(hk:P.underlying kt=some .string)(z:Value)(hz: (P.info? et).map (·.zero) =some (some z))
 (g:Nat)(ks:ByteArray)(es:List (ByteArray×Value))(hg:fz w g es)(B:Bool)(v:Value)(hv: (match gu es ks with|some u=> (u,true) |none=> (z,false)) = (v,B)) :
 (Instr.lookup T (.map (some g)) (.string ks) true).run P w= .ok (.tuple #[v,.bool B]) w:=by
 obtain⟨xs,clk,h1,h2⟩:=hg;obtain⟨r,r1,r2⟩:=rB ks xs.toList es 0 h2
 cases hq:P.info? et with
 |none=>simp[hq]at hz
 |some j=>
  have hj:j.zero=some z:=by simpa [hq]using hz
  rw[<- r2]at hv
  cases r with
  |none=>
   simp at hv;obtain⟨rfl,rfl⟩:=hv;simp[Instr.lookup,run_underlying hT,Go.MapKept.run_getObj_map h1,run_checkKey (w:=w) hk (show IsKey .string (.string ks)from trivial),run_findKey (w:=w) hk r1,zeroValue,typeInfo,hq,hj,Result.andThen]
  |some x=>
   obtain⟨i,u⟩:=x;simp at hv;obtain⟨rfl,rfl⟩:=hv;simp[Instr.lookup,run_underlying hT,Go.MapKept.run_getObj_map h1,run_checkKey (w:=w) hk (show IsKey .string (.string ks)from trivial),run_findKey (w:=w) hk r1,Result.andThen]
end
end Go.Proofs.YtcjagakckffkiaaGreatDoor
namespace Go.Proofs.YtcjagakckffkiaaGreatDoor.Fit
open Go.RowKit bL Pnm
theorem Re:ij Tryz.prog 246 5:=⟨⟨_,Tryz.underlying246⟩,by kernel_rfl⟩
theorem Rg: (Tryz.prog.info? 246).map (·.zero) =some (some (.agg (aR 0 emp 0 emp 0).toArray)) :=by kernel_rfl
def cV (g:Nat) :List (ByteArray×Value) := [(aQ,.func (.func 174) #[.pointer (some ⟨g,0,none⟩)] #[]),(aM,.func (.func 175) #[.pointer (some ⟨g,0,none⟩)] #[]),(aS,.func (.func 176) #[.pointer (some ⟨g,0,none⟩)] #[])]
theorem Bv (g:Nat) :gu (cV g) aQ=some (.func (.func 174) #[.pointer (some ⟨g,0,none⟩)] #[]) :=by
 unfold gu cV;rw[List.find?_cons_of_pos (by simp)];rfl
theorem BX (g:Nat) :gu (cV g) aM=some (.func (.func 175) #[.pointer (some ⟨g,0,none⟩)] #[]) :=by
 unfold gu cV;rw[List.find?_cons_of_neg (by rw[decide_eq_false (show¬aQ=aM by decide)];decide),List.find?_cons_of_pos (by simp)];rfl
theorem look_size (g:Nat) :gu (cV g) aS=some (.func (.func 176) #[.pointer (some ⟨g,0,none⟩)] #[]) :=by
 unfold gu cV;rw[List.find?_cons_of_neg (by rw[decide_eq_false (show¬aQ=aS by decide)];decide),List.find?_cons_of_neg (by rw[decide_eq_false (show¬aM=aS by decide)];decide),List.find?_cons_of_pos (by simp)];rfl
theorem Bo (g:Nat){K:ByteArray}(h0:¬K=aQ)(h1:¬K=aM)(h2:¬K=aS) :gu (cV g) K=none:=by
 unfold gu cV;rw[List.find?_cons_of_neg (by simp;exact fun e=>h0 e.symm),List.find?_cons_of_neg (by simp;exact fun e=>h1 e.symm),List.find?_cons_of_neg (by simp;exact fun e=>h2 e.symm)];rfl
theorem fold_succ {rs:List Rec}{j:Nat}{r:Rec}(e0:dY)(h:rs[j]? =some r) : (rs.take (j+1)).foldl jx e0=jx ((rs.take j).foldl jx e0) r:=by
 obtain⟨hj,rfl⟩:=List.getElem?_eq_some_iff.1 h;rw[List.take_succ_eq_append_getElem hj,List.foldl_append];rfl
set_option maxRecDepth 100000 in
theorem Du (T:Int)(nm pf lk:ByteArray)(md sz:Int)(a:Option Addr)(n c:Nat)(rs:List Rec)(w:World)(V:fb w)(hnm:nm.size<=1000000)(hpf:pf.size<=1000000)
 (hv:∀r∈rs,r.2.size<=281474976710656)(hn:rs.length=n)(hR:bS w a rs)(hN:n<=1000000) :
 Calls Tryz.prog 112 #[.agg (Ust.bA T nm pf lk md sz).toArray,.slice a n c] w fun e w'=>
  ∃x:dY,e= .returned (.agg (aR x.k x.p x.m x.t x.s).toArray)/\x=lr ⟨T,nm,pf,lk,md,sz⟩ rs/\Below w.heap.size w w':=by
 have HO:=ad mJ;have EO:=ad Bt;have OD:=ad Re;have EZ:=ad Km;have ZD:=ad Rg;have RZ:=ad uY;have RO:=ad uz;have hmf:∀(fn:Fn) (first cap:Array Value) (w:World),(Instr.makeFunc fn first cap).run Tryz.prog w= .ok (.func fn first cap) w:=fun _ _ _ _=>rfl;have UM:=ad Tryz.underlying248;have US:=ad Tryz.underlying9;have ZF:Hid ((Tryz.prog.info? 247).map (·.zero) =some (some .nilFunc)) :=by show _=_;kernel_rfl
 obtain⟨KD,hK⟩:=named (Ln T);obtain⟨PJ,hP⟩:=named (strOfNums (jO (af pf) (af nm)));have C1:Hid (∀w',Below w.heap.size w w'->Calls Tryz.prog 172 #[.int .u8 T] w' fun e w''=>e= .returned (.int .i64 KD)/\w'=w'') :=fun w' hb=>by rw[hK.out];exact FK T w' (V.go hb).f
 have C2:Hid (∀w',Calls Tryz.prog 173 #[.string pf,.string nm] w' fun e w''=>e= .returned (.string PJ)/\Below w'.heap.size w' w'') :=fun w'=>by rw[hP.out];exact Pnm.PZ pf nm w' hpf hnm
 have E0:Hid (Cp ⟨T,nm,pf,lk,md,sz⟩=⟨KD,PJ,md,lk,sz⟩) :=by show _=_;rw[hK.out,hP.out];rfl
 have HV:=ad V;have HS:=ad hv;have HN:=ad hn;have HR:=ad hR;clear hK hP V hv hn hR hnm hpf;go_enter Tryz.func112,Tryz.ntmps112;go_upto_region 1 with(first| (refine aj rfl 130 _ rfl (Ust.bA T nm pf lk md sz) rfl ?_;intro w1 g1 b1;have H1:=ad g1;have B1:=ad b1;clear g1 b1) | (refine ag rfl 68 rfl (aR 0 emp 0 emp 0) EZ.out ?_;intro w2 g2 b2;have Q2:=ad g2;have H2:=ad (H1.out.below b2 H1.out.lt);have B2:=ad (ar B1.out b2);clear g2 b2));have KS:Hid (∀w',Below w2.heap.size w2 w'-> (fun w':World=>w'.cell? ⟨w.heap.size,0,none⟩=some (.int .u8 T)/\w'.cell? ⟨w.heap.size,1,none⟩=some (.string nm)/\w'.cell? ⟨w.heap.size,2,none⟩=some (.string pf)/\w'.cell? ⟨w.heap.size,3,none⟩=some (.string lk)/\w'.cell? ⟨w.heap.size,4,none⟩=some (.int .i64 md)/\w'.cell? ⟨w.heap.size,5,none⟩=some (.int .i64 sz)) w') :=fun w' hb=>⟨(H2.out.below hb H2.out.lt).get 0 rfl,(H2.out.below hb H2.out.lt).get 1 rfl,(H2.out.below hb H2.out.lt).get 2 rfl,(H2.out.below hb H2.out.lt).get 3 rfl,(H2.out.below hb H2.out.lt).get 4 rfl,(H2.out.below hb H2.out.lt).get 5 rfl⟩;have D2:Hid (Below w2.heap.size w2 w2.drew) :=aF.drew;simp only[Act.put,bB,bC,bD];go_cut [5]from 11 to 25 (fun s5 wx=>∃g:Nat,s5= .pointer (some ⟨g,0,none⟩)/\ak wx g 246 (aR KD PJ md lk sz)/\Below w2.heap.size w2 wx/\w2.heap.size<=g)
 case first=>
  refine wp_region_held_drew (S:= (fun w':World=>w'.cell? ⟨w.heap.size,0,none⟩=some (.int .u8 T)/\w'.cell? ⟨w.heap.size,1,none⟩=some (.string nm)/\w'.cell? ⟨w.heap.size,2,none⟩=some (.string pf)/\w'.cell? ⟨w.heap.size,3,none⟩=some (.string lk)/\w'.cell? ⟨w.heap.size,4,none⟩=some (.int .i64 md)/\w'.cell? ⟨w.heap.size,5,none⟩=some (.int .i64 sz))) (by kernel_rfl) (KS.out _ D2.out) (fun hHeld=>?_);refine aJ 0 (h:=aJ 1 (h:=aJ 3 (h:=aJ 4 (h:=?_))));simp only[Act.put,bB,bC,bD];refine aJ 5 (h:=aJ 6 (h:=aJ 8 (h:=aJ 9 (h:=?_))));simp only[Act.put,bB,bC,bD];refine aJ 10 (h:=aJ 11 (h:=aJ 12 (h:=aJ 13 (h:=?_))));simp only[Act.put,bB,bC,bD];refine Lv (rc 2 (fun K hK=>?_) (rc 15 (fun K hK=>?_) .nil))
  ·go_simp;refine(C1.out _ (B2.out.trans (D2.out.mono B2.out.size))).mono ?_;rintro e w11 ⟨rfl,hw11⟩;have D11:Hid (Below w2.heap.size w2 w11) :=hw11▸D2.out;clear hw11;go_wp2_with fail;refine hK.out _ _ (KS.out _ D11.out) (fun hHeld=>?_);clear hK K
   (try simp only[Act.put,bB,bC,bD])
   refine Lv (rc 7 (fun K hK=>?_) (rc 15 (fun K hK=>?_) .nil))
   ·go_simp;refine(C2.out _).mono ?_;rintro e w12 ⟨rfl,b12⟩;have D12:Hid (Below w2.heap.size w2 w12) :=D11.out.trans (b12.mono D11.out.size);clear b12;go_wp2_with fail;refine hK.out _ _ (KS.out _ D12.out) (fun hHeld=>?_);clear hK K
    (try simp only[Act.put,bB,bC,bD])
    refine tk 14 ?_;simp only[Act.put,bB,bC,bD];refine rd 15 fun K hK=>?_
    ·refine cT rfl 246 rfl (aR 0 emp 0 emp 0) ZD.out ?_;intro w13 g13 b13;have X13:Hid (ak w13 w12.heap.size 246 (aR 0 emp 0 emp 0)) :=g13;have D13:Hid (Below w2.heap.size w2 w13) :=D12.out.trans (b13.mono D12.out.size);clear g13 b13;refine hK.out _ _ (KS.out _ D13.out) (fun hHeld=>?_);clear hK K
     (try simp only[Act.put,bB,bC,bD])
     refine rd 16 fun K hK=>?_;refine cR rfl 246 (.tmp 5) (.tmp 25) rfl w12.heap.size rfl (aR KD PJ md lk sz) (aR 0 emp 0 emp 0) rfl 246 X13.out OD.out.2 rfl (bt _ _ _ _ _) ?_;intro w14 g14 t14;have X14:Hid (ak w14 w12.heap.size 246 (aR KD PJ md lk sz)) :=g14;have D14:Hid (Below w2.heap.size w2 w14) :=D13.out.trans (t14.below (D12.out.size));clear g14 t14;refine hK.out _ _ (KS.out _ D14.out) (fun hHeld=>?_);clear hK K
     (try simp only[Act.put])
     refine wpAnyH_done (by kernel_rfl) ?_ _;go_wp2_with fail
     go_meet
     exact⟨_,rfl,X14.out,D14.out,D12.out.size⟩
   ·refine cT rfl 246 rfl (aR 0 emp 0 emp 0) ZD.out ?_;intro w15 g15 b15;have X15:Hid (ak w15 w11.heap.size 246 (aR 0 emp 0 emp 0)) :=g15;have D15:Hid (Below w2.heap.size w2 w15) :=D11.out.trans (b15.mono D11.out.size);clear g15 b15;refine hK.out _ _ (KS.out _ D15.out) (fun hHeld=>?_);clear hK K
    (try simp only[Act.put,bB,bC,bD])
    refine rd 7 fun K hK=>?_
    ·go_simp;refine(C2.out _).mono ?_;rintro e w16 ⟨rfl,b16⟩;have D16:Hid (Below w2.heap.size w2 w16) :=D15.out.trans (b16.mono D15.out.size);have X16:Hid (ak w16 w11.heap.size 246 (aR 0 emp 0 emp 0)) :=X15.out.below b16 X15.out.lt;clear b16;go_wp2_with fail;refine hK.out _ _ (KS.out _ D16.out) (fun hHeld=>?_);clear hK K
     (try simp only[Act.put,bB,bC,bD])
     refine tk 14 ?_;simp only[Act.put,bB,bC,bD];refine rd 16 fun K hK=>?_;refine cR rfl 246 (.tmp 5) (.tmp 25) rfl w11.heap.size rfl (aR KD PJ md lk sz) (aR 0 emp 0 emp 0) rfl 246 X16.out OD.out.2 rfl (bt _ _ _ _ _) ?_;intro w17 g17 t17;have X17:Hid (ak w17 w11.heap.size 246 (aR KD PJ md lk sz)) :=g17;have D17:Hid (Below w2.heap.size w2 w17) :=D16.out.trans (t17.below (D11.out.size));clear g17 t17;refine hK.out _ _ (KS.out _ D17.out) (fun hHeld=>?_);clear hK K
     (try simp only[Act.put])
     refine wpAnyH_done (by kernel_rfl) ?_ _;go_wp2_with fail
     go_meet
     exact⟨_,rfl,X17.out,D17.out,D11.out.size⟩
  ·refine cT rfl 246 rfl (aR 0 emp 0 emp 0) ZD.out ?_;intro w18 g18 b18;have X18:Hid (ak w18 w2.heap.size 246 (aR 0 emp 0 emp 0)) :=g18;have D18:Hid (Below w2.heap.size w2 w18) :=D2.out.trans (b18.mono D2.out.size);clear g18 b18;refine hK.out _ _ (KS.out _ D18.out) (fun hHeld=>?_);clear hK K
   (try simp only[Act.put,bB,bC,bD])
   refine rd 2 fun K hK=>?_
   ·go_simp;refine(C1.out _ (B2.out.trans (D18.out.mono B2.out.size))).mono ?_;rintro e w19 ⟨rfl,hw19⟩;have D19:Hid (Below w2.heap.size w2 w19) :=hw19▸D18.out;have X19:Hid (ak w19 w2.heap.size 246 (aR 0 emp 0 emp 0)) :=hw19▸X18.out;clear hw19;go_wp2_with fail;refine hK.out _ _ (KS.out _ D19.out) (fun hHeld=>?_);clear hK K
    (try simp only[Act.put,bB,bC,bD])
    refine rd 7 fun K hK=>?_
    ·go_simp;refine(C2.out _).mono ?_;rintro e w20 ⟨rfl,b20⟩;have D20:Hid (Below w2.heap.size w2 w20) :=D19.out.trans (b20.mono D19.out.size);have X20:Hid (ak w20 w2.heap.size 246 (aR 0 emp 0 emp 0)) :=X19.out.below b20 X19.out.lt;clear b20;go_wp2_with fail;refine hK.out _ _ (KS.out _ D20.out) (fun hHeld=>?_);clear hK K
     (try simp only[Act.put,bB,bC,bD])
     refine tk 14 ?_;simp only[Act.put,bB,bC,bD];refine rd 16 fun K hK=>?_;refine cR rfl 246 (.tmp 5) (.tmp 25) rfl w2.heap.size rfl (aR KD PJ md lk sz) (aR 0 emp 0 emp 0) rfl 246 X20.out OD.out.2 rfl (bt _ _ _ _ _) ?_;intro w21 g21 t21;have X21:Hid (ak w21 w2.heap.size 246 (aR KD PJ md lk sz)) :=g21;have D21:Hid (Below w2.heap.size w2 w21) :=D20.out.trans (t21.below ah);clear g21 t21;refine hK.out _ _ (KS.out _ D21.out) (fun hHeld=>?_);clear hK K
     (try simp only[Act.put])
     refine wpAnyH_done (by kernel_rfl) ?_ _;go_wp2_with fail
     go_meet
     exact⟨_,rfl,X21.out,D21.out,ah⟩
 case rest=>
 obtain⟨g,rfl,hx,hb,hg⟩:=hcut;have X3:=ad hx;have Q3:=ad (Q2.out.below hb Q2.out.lt);have B3:=ad (ar B2.out hb);have R3:=ad (HR.out.below B3.out);have LG:Hid (w1.heap.size<g) :=Nat.lt_of_lt_of_le Q2.out.lt hg;have LW:Hid (w.heap.size<=w1.heap.size) :=B1.out.size;clear hx hb hg KS D2 C1 C2;go_wp2_with (first| (refine pL rfl 248 rfl ?_;intro w4 g4 b4;have M4:=ad g4;have X4:=ad (X3.out.below b4 X3.out.lt);have Q4:=ad (Q3.out.below b4 Q3.out.lt);have A4:=ad b4;have LM:Hid (g<wc.heap.size/\w1.heap.size<wc.heap.size) :=⟨X3.out.lt,Q3.out.lt⟩;clear g4 b4) | (refine fm rfl 248 _ _ _ rfl 9 247 UM.out US.out wc.heap.size rfl aQ rfl _ rfl [] M4.out (by unfold gu;rfl) ?_;intro w5 g5 t5;have M5:=ad g5;have X5:=ad (X4.out.aK t5 (Nat.ne_of_lt LM.out.1));have Q5:=ad (Q4.out.aK t5 (Nat.ne_of_lt LM.out.2));have A5:=ad (A4.out.trans (t5.below ah));clear g5 t5) | (refine fm rfl 248 _ _ _ rfl 9 247 UM.out US.out wc.heap.size rfl aM rfl _ rfl [(aQ,.func (.func 174) #[.pointer (some ⟨g,0,none⟩)] #[])] M5.out (by unfold gu;rfl) ?_;intro w6 g6 t6;have M6:=ad g6;have X6:=ad (X5.out.aK t6 (Nat.ne_of_lt LM.out.1));have Q6:=ad (Q5.out.aK t6 (Nat.ne_of_lt LM.out.2));have A6:=ad (A5.out.trans (t6.below ah));clear g6 t6) | (refine fm rfl 248 _ _ _ rfl 9 247 UM.out US.out wc.heap.size rfl aS rfl _ rfl [(aQ,.func (.func 174) #[.pointer (some ⟨g,0,none⟩)] #[]),(aM,.func (.func 175) #[.pointer (some ⟨g,0,none⟩)] #[])] M6.out (by unfold gu;rfl) ?_;intro w7 g7 t7;have M7:=ad g7;have X7:=ad (X6.out.aK t7 (Nat.ne_of_lt LM.out.1));have Q7:=ad (Q6.out.aK t7 (Nat.ne_of_lt LM.out.2));have A7:=ad (A6.out.trans (t7.below ah));clear g7 t7));have M8:Hid (fz w7 wc.heap.size (cV g)) :=M7.out;have B8:=ad (ar B3.out A7.out);go_loopw [33] (fun i wr=>∃(j:Nat) (x:dY),i= .int .i64 j/\j<=n/\x= (rs.take j).foldl jx ⟨KD,PJ,md,lk,sz⟩/\ak wr g 246 (aR x.k x.p x.m x.t x.s)/\fz wr wc.heap.size (cV g)/\ak wr w1.heap.size 68 (aR 0 emp 0 emp 0)/\Below w.heap.size w wr) (fun i _=>n- (intOf i).toNat)
 case atStart=>exact⟨0,⟨KD,PJ,md,lk,sz⟩,rfl,Nat.zero_le _,rfl,X7.out,M8.out,Q7.out,B8.out⟩
 case round=>
  obtain⟨j,x,rfl,hj,hx,hX,hM,hQ,hB⟩:=hrel;have HX:=ad hx;have XR:=ad hX;have MR:=ad hM;have QR:=ad hQ;have BR:=ad hB;obtain⟨xk,xp,xm,xt,xs⟩:=x;clear hx hX hM hQ hB;have WL:Hid (wc.heap.size<wr.heap.size) :=MR.out.lt;by_cases hjn:j<n
  ·obtain⟨r,hr⟩:=get_some (show j<rs.length by rw[HN.out];exact hjn);obtain⟨Ke,Va⟩:=r;have HVa:Hid (Va.size<=281474976710656) :=HS.out _ (List.mem_of_getElem? hr);have FS:=ad (fold_succ ⟨KD,PJ,md,lk,sz⟩ hr);obtain⟨b1,o1,hbe,_,c0',c1'⟩:= (HR.out.below BR.out).get j _ hr;have j1: (j:Int) <n:=by omega
   have c0:wr.cell? ⟨b1,o1+j*2,none⟩=some (.string Ke) :=c0';have c1:wr.cell? ⟨b1,o1+j*2+1,none⟩=some (.string Va) :=c1';clear c0' c1' hr hjn;subst hbe;by_cases k0:Ke=aQ
   ·subst k0;have LK:=ad fun(w':World) (hm:fz w' wc.heap.size (cV g)) =>mY (P:=Tryz.prog) (w:=w') 248 9 247 UM.out US.out .nilFunc ZF.out wc.heap.size aQ (cV g) hm true (.func (.func 174) #[.pointer (some ⟨g,0,none⟩)] #[]) (by rw[Bv g]);go_wp2_with (first| (refine ag rfl 202 rfl rz RZ.out ?_;intro w4 g4 b4;have S4:=ad g4;have A4:=ad b4;clear g4 b4) | (refine ae rfl 202 _ _ rfl wr.heap.size rfl [.string aQ,.string Va] rz rfl 202 S4.out RO.out.2 rfl (eF _ _) ?_;intro w5 g5 t5;have A5:=ad (A4.out.trans (t5.below ah));have X5:=ad (XR.out.below A5.out XR.out.lt);have M5:=ad (MR.out.below A5.out MR.out.lt);have Q5:=ad (QR.out.below A5.out QR.out.lt);have B5:=ad (ar BR.out A5.out);have d0:=g5.get 0 rfl;have d1:=g5.get 1 rfl;have lk5:=LK.out w5 M5.out;clear g5 t5));refine(Cj g xk xp xm xt xs Va w5 X5.out).mono ?_;rintro e w6 ⟨rfl,x6,o6⟩;have X6:=ad x6;have M6:=ad (M5.out.block (o6.block _ M5.out.lt (.inr (Nat.succ_le_of_lt LM.out.1))));have Q6:=ad (Q5.out.out o6 (.inl LG.out));have B6:=ad (B5.out.trans (o6.below (Nat.le_trans LW.out (Nat.le_of_lt LG.out)) B5.out.size));clear x6 o6 lk5;go_wp2;go_roundw
    case rel=>exact⟨j+1,⟨xk,xp,xm,Va,xs⟩,by go_num,by omega,by rw[FS.out,<- HX.out,ya],X6.out,M6.out,Q6.out,B6.out⟩
    case measure=>simp[intOf];omega
   ·by_cases k1:Ke=aM
    ·subst k1;clear k0;have LK:=ad fun(w':World) (hm:fz w' wc.heap.size (cV g)) =>mY (P:=Tryz.prog) (w:=w') 248 9 247 UM.out US.out .nilFunc ZF.out wc.heap.size aM (cV g) hm true (.func (.func 175) #[.pointer (some ⟨g,0,none⟩)] #[]) (by rw[BX g]);go_wp2_with (first| (refine ag rfl 202 rfl rz RZ.out ?_;intro w4 g4 b4;have S4:=ad g4;have A4:=ad b4;clear g4 b4) | (refine ae rfl 202 _ _ rfl wr.heap.size rfl [.string aM,.string Va] rz rfl 202 S4.out RO.out.2 rfl (eF _ _) ?_;intro w5 g5 t5;have A5:=ad (A4.out.trans (t5.below ah));have X5:=ad (XR.out.below A5.out XR.out.lt);have M5:=ad (MR.out.below A5.out MR.out.lt);have Q5:=ad (QR.out.below A5.out QR.out.lt);have B5:=ad (ar BR.out A5.out);have d0:=g5.get 0 rfl;have d1:=g5.get 1 rfl;have lk5:=LK.out w5 M5.out;clear g5 t5));refine(Kj g xk xp xm xt xs Va w5 X5.out).mono ?_;rintro e w6 ⟨rfl,x6,o6⟩;have X6:=ad x6;have M6:=ad (M5.out.block (o6.block _ M5.out.lt (.inr (Nat.succ_le_of_lt LM.out.1))));have Q6:=ad (Q5.out.out o6 (.inl LG.out));have B6:=ad (B5.out.trans (o6.below (Nat.le_trans LW.out (Nat.le_of_lt LG.out)) B5.out.size));clear x6 o6 lk5;go_wp2;go_roundw
     case rel=>exact⟨j+1,⟨xk,Va,xm,xt,xs⟩,by go_num,by omega,by rw[FS.out,<- HX.out,wi],X6.out,M6.out,Q6.out,B6.out⟩
     case measure=>simp[intOf];omega
    ·by_cases k2:Ke=aS
     ·subst k2;clear k0 k1;have LK:=ad fun(w':World) (hm:fz w' wc.heap.size (cV g)) =>mY (P:=Tryz.prog) (w:=w') 248 9 247 UM.out US.out .nilFunc ZF.out wc.heap.size aS (cV g) hm true (.func (.func 176) #[.pointer (some ⟨g,0,none⟩)] #[]) (by rw[look_size g]);go_wp2_with (first| (refine ag rfl 202 rfl rz RZ.out ?_;intro w4 g4 b4;have S4:=ad g4;have A4:=ad b4;clear g4 b4) | (refine ae rfl 202 _ _ rfl wr.heap.size rfl [.string aS,.string Va] rz rfl 202 S4.out RO.out.2 rfl (eF _ _) ?_;intro w5 g5 t5;have A5:=ad (A4.out.trans (t5.below ah));have X5:=ad (XR.out.below A5.out XR.out.lt);have M5:=ad (MR.out.below A5.out MR.out.lt);have Q5:=ad (QR.out.below A5.out QR.out.lt);have B5:=ad (ar BR.out A5.out);have d0:=g5.get 0 rfl;have d1:=g5.get 1 rfl;have lk5:=LK.out w5 M5.out;clear g5 t5));refine(KU g xk xp xm xt xs Va w5 (HV.out.go B5.out) HVa.out X5.out).mono ?_;rintro e w6 ⟨rfl,x6,o6⟩;have X6:=ad x6;have M6:=ad (M5.out.block (o6.block _ M5.out.lt (.inr (Nat.succ_le_of_lt LM.out.1))));have Q6:=ad (Q5.out.out o6 (.inl LG.out));have B6:=ad (B5.out.trans (o6.below (Nat.le_trans LW.out (Nat.le_of_lt LG.out)) B5.out.size));clear x6 o6 lk5;go_wp2;go_roundw
      case rel=>exact⟨j+1,⟨xk,xp,xm,xt,yH Va⟩,by go_num,by omega,by rw[FS.out,<- HX.out,vT],X6.out,M6.out,Q6.out,B6.out⟩
      case measure=>simp[intOf];omega
     ·have K0:=ad k0;have K1:=ad k1;have K2:=ad k2;clear k0 k1 k2;have LK:=ad fun(w':World) (hm:fz w' wc.heap.size (cV g)) =>mY (P:=Tryz.prog) (w:=w') 248 9 247 UM.out US.out .nilFunc ZF.out wc.heap.size Ke (cV g) hm false (.nilFunc) (by rw[Bo g K0.out K1.out K2.out]);go_wp2_with (first| (refine ag rfl 202 rfl rz RZ.out ?_;intro w4 g4 b4;have S4:=ad g4;have A4:=ad b4;clear g4 b4) | (refine ae rfl 202 _ _ rfl wr.heap.size rfl [.string Ke,.string Va] rz rfl 202 S4.out RO.out.2 rfl (eF _ _) ?_;intro w5 g5 t5;have A5:=ad (A4.out.trans (t5.below ah));have X5:=ad (XR.out.below A5.out XR.out.lt);have M5:=ad (MR.out.below A5.out MR.out.lt);have Q5:=ad (QR.out.below A5.out QR.out.lt);have B5:=ad (ar BR.out A5.out);have d0:=g5.get 0 rfl;have d1:=g5.get 1 rfl;have lk5:=LK.out w5 M5.out;clear g5 t5));go_roundw
      case rel=>exact⟨j+1,⟨xk,xp,xm,xt,xs⟩,by go_num,by omega,by rw[FS.out,<- HX.out];unfold jx;rw[if_neg K0.out,if_neg K1.out,if_neg K2.out],X5.out,M5.out,Q5.out,B5.out⟩
      case measure=>simp[intOf];omega
  ·obtain rfl:j=n:=by omega
   have j1:¬(j:Int) <j:=by omega
   have hfin: (⟨xk,xp,xm,xt,xs⟩:dY) =lr ⟨T,nm,pf,lk,md,sz⟩ rs:=by
    rw[HX.out,List.take_of_length_le (by rw[HN.out];exact ah)];unfold lr;rw[E0.out]
   have HF:=ad hfin;clear hjn hfin HX;go_wp2_with (first| (refine aG rfl 246 5 OD.out _ rfl g rfl 246 (aR xk xp xm xt xs) XR.out rfl ?_) | (refine ae rfl 68 _ _ rfl w1.heap.size rfl (aR xk xp xm xt xs) (aR 0 emp 0 emp 0) rfl 68 QR.out EO.out.2 rfl (bt _ _ _ _ _) ?_;intro w9 g9 t9;have Q9:=ad g9;have T9:=ad t9;clear g9 t9));exact bodyPost_ret (df Tryz.results112 EO.out _ w1.heap.size rfl _ (aR xk xp xm xt xs) Q9.out rfl) rfl ⟨⟨xk,xp,xm,xt,xs⟩,rfl,HF.out,BR.out.trans (T9.out.below LW.out)⟩
end Go.Proofs.YtcjagakckffkiaaGreatDoor.Fit
