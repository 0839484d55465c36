import Derived.Test.YtcjagakckffkiaaGreatDoorQ20
import Derived.Test.YtcjagakckffkiaaGreatDoorQ21
import Derived.Test.YtcjagakckffkiaaGreatDoorQ11
import Derived.Test.YtcjagakckffkiaaGreatDoorQ1
import Derived.Test.YtcjagakckffkiaaGreatDoorQ16
import Derived.Test.YtcjagakckffkiaaGreatDoorQ9
import Derived.Deep.RegionHeld3
import Derived.Test.YtcjagakckffkiaaGreatDoorQ8
set_option maxHeartbeats 16000000
namespace Go.Proofs.YtcjagakckffkiaaGreatDoor.Ust
open Go.RowKit
open Oct Cst jC
def sN (hb:Nat)(vs:List Value)(w:World)(e:Ending)(w':World) :Prop:=e= .returned (.tuple #[])/\ak w' hb 130 vs/\Out hb (hb+1) w w'
section
variable (a:Option Addr) (n cap:Nat) (zs:List Int) (w:World) (hb:Nat) (v0 v1 v2 v3 v4 v5:Value)
theorem jA (b:Value)(hh:ak w hb 130 [v0,v1,v2,v3,v4,v5]) :
 Calls Tryz.prog 159 #[.pointer (some ⟨hb,0,none⟩),b] w (sN hb [v0,v1,v2,v3,v4,v5] w) :=by
 go_enter Tryz.func159,Tryz.ntmps159;go_wp2
 go_end0
 exact⟨rfl,hh,Out.refl _ _ _⟩
theorem kT {w:World}{hb:Nat}(i:Nat)(v:Value) :Out hb (hb+1) w (w.setCell ⟨hb,i,none⟩ v) :=Out.setCell (p:=⟨hb,i,none⟩) (Out.refl hb (hb+1) w) ah (Nat.lt_succ_self _) v
theorem Iz (T:Int)(hh:ak w hb 130 [.int .u8 T,v1,v2,v3,v4,v5])(hz:BytesIn w a zs)(hl:zs.length=1) :
 Calls Tryz.prog 163 #[.pointer (some ⟨hb,0,none⟩),.slice a 1 cap] w (sN hb [.int .u8 (zs.getD 0 0),v1,v2,v3,v4,v5] w) :=by
 obtain⟨b,off,rfl,hlt,hr⟩:∃b off,a=some ⟨b,off,none⟩/\b<w.heap.size/\aT w b off zs:=by
  rcases hz with hz|hz
  ·rw[hz]at hl;cases hl
  ·exact hz
 obtain⟨z,hz0,z1,z2,hcell⟩:=hr.get 0 (by omega);rw[<- hz0];have H:=ad hh;have c0:=hh.get 0 rfl;have f0:=hh.frozen 0;simp only[Nat.add_zero]at hcell;clear hh hr hz0 hlt hz hl;go_enter Tryz.func163,Tryz.ntmps163;go_wp2
 go_end0
 exact⟨rfl,H.out.set 0 _,kT _ _⟩
theorem Ka (x:ByteArray)(hh:ak w hb 130 [v0,.string x,v2,v3,v4,v5])(hz:BytesIn w a zs)(hl:zs.length=n)(hc:n<=cap)(hm:cap<=maxLen) :
 Calls Tryz.prog 155 #[.pointer (some ⟨hb,0,none⟩),.slice a n cap] w (sN hb [v0,.string (strOfNums (nL zs)),v2,v3,v4,v5] w) :=by
 have HP:=ad (Cst.iZ a n cap zs w hz hl hc hm);obtain⟨V,hV⟩:=named (strOfNums (nL zs));obtain⟨E,hE⟩:=named (uO zs);rw[<- hV.out,<- hE.out]at HP;rw[<- hV.out];have H:=ad hh;have c0:=hh.get 1 rfl;have f0:=hh.frozen 1;clear hh hz hl hc hm hV hE;go_enter Tryz.func155,Tryz.ntmps155;go_wp2_with fail;refine HP.out.mono ?_;rintro e w1 ⟨rfl,rfl⟩;go_wp2
 go_end0
 exact⟨rfl,H.out.set 1 _,kT _ _⟩
theorem Cd (x:ByteArray)(hh:ak w hb 130 [v0,v1,.string x,v3,v4,v5])(hz:BytesIn w a zs)(hl:zs.length=n)(hc:n<=cap)(hm:cap<=maxLen) :
 Calls Tryz.prog 169 #[.pointer (some ⟨hb,0,none⟩),.slice a n cap] w (sN hb [v0,v1,.string (strOfNums (nL zs)),v3,v4,v5] w) :=by
 have HP:=ad (Cst.iZ a n cap zs w hz hl hc hm);obtain⟨V,hV⟩:=named (strOfNums (nL zs));obtain⟨E,hE⟩:=named (uO zs);rw[<- hV.out,<- hE.out]at HP;rw[<- hV.out];have H:=ad hh;have c0:=hh.get 2 rfl;have f0:=hh.frozen 2;clear hh hz hl hc hm hV hE;go_enter Tryz.func169,Tryz.ntmps169;go_wp2_with fail;refine HP.out.mono ?_;rintro e w1 ⟨rfl,rfl⟩;go_wp2
 go_end0
 exact⟨rfl,H.out.set 2 _,kT _ _⟩
theorem KW (x:ByteArray)(hh:ak w hb 130 [v0,v1,v2,.string x,v4,v5])(hz:BytesIn w a zs)(hl:zs.length=n)(hc:n<=cap)(hm:cap<=maxLen) :
 Calls Tryz.prog 165 #[.pointer (some ⟨hb,0,none⟩),.slice a n cap] w (sN hb [v0,v1,v2,.string (strOfNums (nL zs)),v4,v5] w) :=by
 have HP:=ad (Cst.iZ a n cap zs w hz hl hc hm);obtain⟨V,hV⟩:=named (strOfNums (nL zs));obtain⟨E,hE⟩:=named (uO zs);rw[<- hV.out,<- hE.out]at HP;rw[<- hV.out];have H:=ad hh;have c0:=hh.get 3 rfl;have f0:=hh.frozen 3;clear hh hz hl hc hm hV hE;go_enter Tryz.func165,Tryz.ntmps165;go_wp2_with fail;refine HP.out.mono ?_;rintro e w1 ⟨rfl,rfl⟩;go_wp2
 go_end0
 exact⟨rfl,H.out.set 3 _,kT _ _⟩
theorem IL (x:Int)(hh:ak w hb 130 [v0,v1,v2,v3,.int .i64 x,v5])(hz:BytesIn w a zs)(hl:zs.length=n)(hc:n<=cap)(hm:cap<=maxLen) :
 Calls Tryz.prog 157 #[.pointer (some ⟨hb,0,none⟩),.slice a n cap] w (sN hb [v0,v1,v2,v3,.int .i64 (DW zs),v5] w) :=by
 have HP:=ad (Oct.iZ a n cap zs w hz hl (Nat.le_trans hc hm));obtain⟨V,hV⟩:=named (DW zs);obtain⟨E,hE⟩:=named (Lo zs);rw[<- hV.out,<- hE.out]at HP;rw[<- hV.out];have H:=ad hh;have c0:=hh.get 4 rfl;have f0:=hh.frozen 4;clear hh hz hl hc hm hV hE;go_enter Tryz.func157,Tryz.ntmps157;go_wp2_with fail;refine HP.out.mono ?_;rintro e w1 ⟨rfl,rfl⟩;go_wp2
 go_end0
 exact⟨rfl,H.out.set 4 _,kT _ _⟩
theorem Lt (x:Int)(hh:ak w hb 130 [v0,v1,v2,v3,v4,.int .i64 x])(hz:BytesIn w a zs)(hl:zs.length=n)(hc:n<=cap)(hm:cap<=maxLen) :
 Calls Tryz.prog 161 #[.pointer (some ⟨hb,0,none⟩),.slice a n cap] w (sN hb [v0,v1,v2,v3,v4,.int .i64 (DW zs)] w) :=by
 have HP:=ad (Oct.iZ a n cap zs w hz hl (Nat.le_trans hc hm));obtain⟨V,hV⟩:=named (DW zs);obtain⟨E,hE⟩:=named (Lo zs);rw[<- hV.out,<- hE.out]at HP;rw[<- hV.out];have H:=ad hh;have c0:=hh.get 5 rfl;have f0:=hh.frozen 5;clear hh hz hl hc hm hV hE;go_enter Tryz.func161,Tryz.ntmps161;go_wp2_with fail;refine HP.out.mono ?_;rintro e w1 ⟨rfl,rfl⟩;go_wp2
 go_end0
 exact⟨rfl,H.out.set 5 _,kT _ _⟩
end
end Go.Proofs.YtcjagakckffkiaaGreatDoor.Ust
namespace Go.Proofs.YtcjagakckffkiaaGreatDoor.jC
open Go.RowKit
open Oct
theorem Jg (a:Option Addr)(len cap:Nat)(w:World)(hl:¬len=512) :
 Calls Tryz.prog 106 #[.slice a len cap] w fun e w'=>e= .returned (.int .i64 2)/\Below w.heap.size w w':=by
 have HL:=ad hl;clear hl;have HT:=ad zf;go_enter Tryz.func106,Tryz.ntmps106;go_wp2_with fail;refine(Dz a len cap _ HL.out).mono ?_;rintro e w1 ⟨rfl,b1⟩;have B1:=ad b1;clear b1;go_wp2_with (first| (refine cI rfl 236 5 512 HT.out rfl ?_;intro w2 h2 b2;have H2:=ad h2;have B2:=ad b2;clear h2 b2) | (refine cB rfl 236 5 512 HT.out _ _ rfl w1.heap.size rfl (ao 512) rfl (cZ _) (al _) 236 (ao 512) H2.out (al _) ?_;intro w3 h3 t3;have H3:=ad h3;have T3:=ad t3;clear h3 t3));go_ret;exact⟨rfl,B1.out.trans ((B2.out.trans (T3.out.below ah)).mono B1.out.size)⟩
theorem yF (a:Option Addr)(cap:Nat)(zs:List Int)(w:World)(v:Int)(hl:zs.length=512)(hb:BytesIn w a zs)(hz:Bytes zs)(hv: (zs=cu zs/\v=0)\/ (¬zs=cu zs/\v=9)) :
 Calls Tryz.prog 106 #[.slice a 512 cap] w fun e w'=>e= .returned (.int .i64 v)/\Below w.heap.size w w':=by
 have HL:=ad hl;clear hl;have HB:=ad hb;clear hb;have HZ:=ad hz;clear hz;have HT:=ad zf;go_enter Tryz.func106,Tryz.ntmps106;go_wp2_with fail;refine(Ak a cap zs _ HL.out HB.out).mono ?_;rintro e w1 ⟨rfl,b1⟩;have B1:=ad b1;clear b1;go_wp2_with (first| (refine cI rfl 236 5 512 HT.out rfl ?_;intro w2 h2 b2;have H2:=ad h2;have B2:=ad b2;clear h2 b2) | (refine cB rfl 236 5 512 HT.out _ _ rfl w1.heap.size rfl zs rfl HZ.out HL.out 236 (ao 512) H2.out (al _) ?_;intro w3 h3 t3;have H3:=ad h3;have T3:=ad t3;clear h3 t3));have B13:Hid (Below w.heap.size w w3) :=B1.out.trans ((B2.out.trans (T3.out.below ah)).mono B1.out.size)
 have HQ:Hid (∀w,(∃q:Of (fun w'=>Below w3.heap.size w3 w'),w=q.w)->aT w w1.heap.size 0 zs) :=by
  rintro w ⟨q,rfl⟩;exact(H3.out.below q.h H3.out.lt).row
 have hq:Tryz.prog.eqGuardType Tryz.prog.depth 236=false:=by kernel_rfl
 rcases hv with⟨hv,rfl⟩|⟨hv,rfl⟩
 ·have hne:∀w,(binOp .neq 236 (.agg (arr zs)) (.agg (arr (cu zs)))).run Tryz.prog w= .ok (.bool false) w:=fun w=>by
   rw[pB (P:=Tryz.prog) (w:=w) HT.out zs (cu zs) HL.out (ee HL.out),decide_eq_true hv];rfl
  clear hv;refine aC (S:=fun w'=>Below w3.heap.size w3 w') (by kernel_rfl) (by kernel_rfl) aF.drew ?_;intro hn0
  repeat (first| (go_big_quiet_want;(with_reducible refine kN 236 5 512 HT.out _ rfl w1.heap.size 0 rfl zs HQ.out HL.out ?_);go_big_quiet_on;go_frame) |go_big_quiet_step ((go_at_call 153;exact Calls.gT (ow zs _ HL.out HZ.out) fun w' hb q=>q.trans (hb.mono q.size))))
  refine wpQuiet_nil ?_;rintro wq ⟨q,rfl⟩;go_wp2;go_ret;exact⟨rfl,B13.out.trans (q.h.mono B13.out.size)⟩
 ·have hne:∀w,(binOp .neq 236 (.agg (arr zs)) (.agg (arr (cu zs)))).run Tryz.prog w= .ok (.bool true) w:=fun w=>by
   rw[pB (P:=Tryz.prog) (w:=w) HT.out zs (cu zs) HL.out (ee HL.out),decide_eq_false hv];rfl
  clear hv;refine aC (S:=fun w'=>Below w3.heap.size w3 w') (by kernel_rfl) (by kernel_rfl) aF.drew ?_;intro hn0
  repeat (first| (go_big_quiet_want;(with_reducible refine kN 236 5 512 HT.out _ rfl w1.heap.size 0 rfl zs HQ.out HL.out ?_);go_big_quiet_on;go_frame) |go_big_quiet_step ((go_at_call 153;exact Calls.gT (ow zs _ HL.out HZ.out) fun w' hb q=>q.trans (hb.mono q.size))))
  refine wpQuiet_nil ?_;rintro wq ⟨q,rfl⟩;go_wp2;go_ret;exact⟨rfl,B13.out.trans (q.h.mono B13.out.size)⟩
end Go.Proofs.YtcjagakckffkiaaGreatDoor.jC
namespace Go.Proofs.YtcjagakckffkiaaGreatDoor.Ust
open Go.RowKit
open Oct Cst jC
theorem uN {xs ys:List Int}(hx:Bytes xs)(hy:Bytes ys)(h:¬xs=ys) :¬strOfNums xs=strOfNums ys:=fun e=>h (by
 have h1:=av hx;rw[e,av hy]at h1;exact h1.symm)
theorem oU {s t:ByteArray}(h:¬s=t) : (s.toList==t.toList) =false:=by
 rw[beq_eq_false_iff_ne]
 exact fun e=>h (by
  apply ByteArray.ext;apply Array.ext';rw[ByteArray.toList_eq,ByteArray.toList_eq]at e;exact e)
theorem tY (a:Option Addr)(n c:Nat)(xs:List Int)(b:Option Addr)(m d:Nat)(ys:List Int)(w:World)(h1:BytesIn w a xs)(l1:xs.length=n)(h2:BytesIn w b ys)(l2:ys.length=m) :
 Calls Tryz.prog 109 #[.slice a n c,.slice b m d] w fun e w'=>e= .returned (.bool (decide (xs=ys)))/\w=w':=by
 have q1: ((convert 25 9 (.slice a n c)).run Tryz.prog w) = .ok (.string (strOfNums xs)) w:=bF Tryz.underlying25 Tryz.underlying5 Tryz.underlying9 h1 n c l1;have q2: ((convert 25 9 (.slice b m d)).run Tryz.prog w) = .ok (.string (strOfNums ys)) w:=bF Tryz.underlying25 Tryz.underlying5 Tryz.underlying9 h2 m d l2;by_cases h:xs=ys
 ·subst h;obtain⟨s,hs⟩:=named (strOfNums xs);rw[<- hs.out]at q1 q2;rw[decide_eq_true rfl];clear h1 h2 l1 l2 hs;go_enter Tryz.func109,Tryz.ntmps109;go_wp2;go_ret;exact⟨rfl,rfl⟩
 ·have hne:=uN h1.bytes h2.bytes h;rw[decide_eq_false h];obtain⟨s,hs⟩:=named (strOfNums xs);obtain⟨t,ht⟩:=named (strOfNums ys);rw[<- hs.out]at q1 hne;rw[<- ht.out]at q2 hne;have hn:=oU hne;clear h1 h2 l1 l2 hs ht h;go_enter Tryz.func109,Tryz.ntmps109;go_wp2;go_ret;exact⟨rfl,rfl⟩
def hv (zs:List Int)(j:Nat) :List Value:=
 [.int .u8 (if 6<j then dT zs else 0),.string (if 0<j then oN zs else{data:= #[]}),.string (if 12<j then og zs else{data:= #[]}),.string (if 7<j then oP zs else{data:= #[]}),.int .i64 (if 1<j then pT zs else 0),.int .i64 (if 4<j then pS zs else 0)]
def gh (zs:List Int)(j:Nat) :List Int:= (zs.drop (yb j)).take (wC j)
theorem sG {zs:List Int}(hl:zs.length=512){j:Nat}(hj:j<13) : (gh zs j).length=wC j:=by
 have:=pW hj;unfold gh;rw[List.length_take,List.length_drop];omega
theorem Ev (zs:List Int)(i:Nat) : ((zs.drop i).take 1).getD 0 0=zs.getD i 0:=by
 rw[List.getD_eq_getElem?_getD,List.getD_eq_getElem?_getD,List.getElem?_take,if_pos (by decide),List.getElem?_drop,Nat.add_zero]
theorem Jk {zs:List Int}(hl:zs.length=512){j:Nat}(hj:j<13)(a:Option Addr)(cap:Nat)(hb:Nat)(w:World)(ho:ak w hb 130 (hv zs j))(hz:BytesIn w a (gh zs j))(hc:wC j<=cap)(hm:cap<=maxLen) :
 Calls Tryz.prog (ug j) #[.pointer (some ⟨hb,0,none⟩),.slice a (wC j) cap] w (sN hb (hv zs (j+1)) w) :=by
 have hl':=sG hl hj
 match j,hj with
 |0,_=>exact Ka a 100 cap (gh zs 0) w hb _ _ _ _ _ _ ho hz hl' hc hm
 |1,_=>exact IL a 8 cap (gh zs 1) w hb _ _ _ _ _ _ ho hz hl' hc hm
 |2,_=>exact jA w hb _ _ _ _ _ _ _ ho
 |3,_=>exact jA w hb _ _ _ _ _ _ _ ho
 |4,_=>exact Lt a 12 cap (gh zs 4) w hb _ _ _ _ _ _ ho hz hl' hc hm
 |5,_=>exact jA w hb _ _ _ _ _ _ _ ho
 |6,_=>
  have h:=Iz a cap (gh zs 6) w hb _ _ _ _ _ _ ho hz hl';have e: (gh zs 6).getD 0 0=dT zs:=Ev zs 156;rw[e]at h;exact h
 |7,_=>exact KW a 100 cap (gh zs 7) w hb _ _ _ _ _ _ ho hz hl' hc hm
 |8,_=>exact jA w hb _ _ _ _ _ _ _ ho
 |9,_=>exact jA w hb _ _ _ _ _ _ _ ho
 |10,_=>exact jA w hb _ _ _ _ _ _ _ ho
 |11,_=>exact jA w hb _ _ _ _ _ _ _ ho
 |12,_=>exact Cd a 155 cap (gh zs 12) w hb _ _ _ _ _ _ ho hz hl' hc hm
theorem Jh {zs:List Int} :Fo zs↔mA (dT zs) (oN zs) (og zs) (oP zs) (pT zs) (pS zs) =0/\dL (dT zs) (oN zs) (og zs) (oP zs) (pT zs) (pS zs) =zs:=by
 constructor
 ·exact fun h=>h.2
 ·intro h;have:= (AO h.1).1;rw[h.2]at this;exact(yS this).2.2.2
end Go.Proofs.YtcjagakckffkiaaGreatDoor.Ust
namespace Go.Proofs.YtcjagakckffkiaaGreatDoor.Ust
open Go.RowKit
open Oct Cst jC
theorem QF: (Tryz.prog.info? 130).map (·.zero) =some (some (.agg cr.toArray)) :=by kernel_rfl
theorem QA:ij Tryz.prog 130 6:=⟨⟨_,Tryz.underlying130⟩,by kernel_rfl⟩
theorem aY (T:Int)(nm pf lk:ByteArray)(md sz:Int) :∀v∈bA T nm pf lk md sz,v.oneCell'=true:=by simp[Value.oneCell']
theorem Ah (a:Option Addr)(n cap:Nat)(w:World)(v:Int)(hv0:v≠0)(hV:∀w',Below w.heap.size w w'->Calls Tryz.prog 106 #[.slice a n cap] w' fun e w''=>e= .returned (.int .i64 v)/\Below w'.heap.size w' w'') :
 Calls Tryz.prog 63 #[.slice a n cap] w fun e w'=>e= .returned (.tuple #[.agg cr.toArray,.int .i64 v])/\Below w.heap.size w w':=by
 have HV:=ad hV;have HZ:=ad QF;have HO:=ad QA;have e1: (v !=0) =true:=by simpa using hv0
 clear hV hv0;go_enter Tryz.func63,Tryz.ntmps63;go_wp2_with (first| (refine ag rfl 130 rfl cr HZ.out ?_;intro w1 g1 b1;have H1:=ad g1;have B1:=ad b1;clear g1 b1));refine(HV.out _ B1.out).mono ?_;rintro e w2 ⟨rfl,b2⟩;have H2:=ad (H1.out.below b2 H1.out.lt);have B2:=ad (ar B1.out b2);clear b2;go_wp2_with (first| (refine ae rfl 130 _ _ rfl w.heap.size rfl cr cr rfl 130 H2.out HO.out.2 rfl (aY _ _ _ _ _ _) ?_;intro w3 g3 t3;have H3:=ad g3;have T3:=ad t3;clear g3 t3));exact bodyPost_ret (aH Tryz.results63 HO.out _ w.heap.size rfl _ cr H3.out rfl) rfl ⟨rfl,B2.out.trans (T3.out.below ah)⟩
theorem Ib (b off cap:Nat)(zs:List Int)(w:World)(hl:zs.length=512)(hr:aT w b off zs)(hlt:b<w.heap.size)(hs:zs=cu zs)(hk:¬known (dT zs)) :
 Calls Tryz.prog 63 #[.slice (some ⟨b,off,none⟩) 512 cap] w fun e w'=>e= .returned (.tuple #[.agg cr.toArray,.int .i64 8])/\Below w.heap.size w w':=by
 have HZ:=ad QF;have HO:=ad QA;have HR:=ad hr;have HL:=ad hlt
 have HV:Hid (∀w',Below w.heap.size w w'->Calls Tryz.prog 106 #[.slice (some ⟨b,off,none⟩) 512 cap] w' fun e w''=>e= .returned (.int .i64 0)/\Below w'.heap.size w' w'') :=
  fun w' hb=>jC.yF _ cap zs w' 0 hl (.inr ⟨b,off,rfl,Nat.lt_of_lt_of_le hlt hb.size,hr.below hb hlt⟩) hr.2 (.inl ⟨hs,rfl⟩)
 obtain⟨z,hz0,z1,z2,_⟩:=hr.get 156 (by omega);have HC:Hid (∀w',Below w.heap.size w w'->w'.cell? ⟨b,off+156,none⟩=some (.int .u8 z)) :=fun w' hb=>by rw[hz0];exact(hr.below hb hlt).1 156 (by omega)
 have hkz:¬known z:=by rw[hz0];exact hk
 have HK:=fun w=>oh z w;rw[decide_eq_false hkz]at HK;have HKN:=ad HK;clear hr hl hs hk hz0 hlt hkz HK;go_enter Tryz.func63,Tryz.ntmps63;go_wp2_with (first| (refine ag rfl 130 rfl cr HZ.out ?_;intro w1 g1 b1;have H1:=ad g1;have B1:=ad b1;clear g1 b1));refine(HV.out _ B1.out).mono ?_;rintro e w2 ⟨rfl,b2⟩;have H2:=ad (H1.out.below b2 H1.out.lt);have B2:=ad (ar B1.out b2);have c:=HC.out w2 B2.out;clear b2;go_wp2_with fail;refine(HKN.out _).mono ?_;rintro e w4 ⟨rfl,rfl⟩;go_wp2_with (first| (refine ae rfl 130 _ _ rfl w.heap.size rfl cr cr rfl 130 H2.out HO.out.2 rfl (aY _ _ _ _ _ _) ?_;intro w3 g3 t3;have H3:=ad g3;have T3:=ad t3;clear g3 t3));exact bodyPost_ret (aH Tryz.results63 HO.out _ w.heap.size rfl _ cr H3.out rfl) rfl ⟨rfl,B2.out.trans (T3.out.below ah)⟩
theorem wrap_small {n:Int}(h0:0<=n)(h1:n<=1000) :IntKind.i64.wrap n=n:=by
 have hb:IntKind.i64.bits=64:=rfl;have hs:IntKind.i64.signed=true:=rfl;unfold IntKind.wrap;simp only[hb,hs,Bool.true_and];have e: (2:Int) ^64=18446744073709551616:=by decide
 have e': (2:Int) ^ (64- 1) =9223372036854775808:=by decide
 rw[e,e',Int.emod_eq_of_lt h0 (by omega),if_neg (by simp;omega)]
theorem tW (zs:List Int)(h:Bytes zs) : (strOfNums (nL zs)).size<=maxLen:=by
 have hb:∀z∈nL zs,0<=z/\z<=255:=Hu zs h;rw[<- an,av hb];unfold nL maxLen
 split
 ·exact Nat.zero_le _
 ·split
  ·exact Nat.zero_le _
  ·have:=mV zs;omega
theorem Jb {zs:List Int}(h:Bytes zs) : (oN zs).size<=maxLen:=tW _ (h.take _)
theorem Lu {zs:List Int}(h:Bytes zs) : (og zs).size<=maxLen:=tW _ ((h.drop _).take _)
theorem Jd {zs:List Int}(h:Bytes zs) : (oP zs).size<=maxLen:=tW _ ((h.drop _).take _)
set_option maxRecDepth 100000 in
theorem Cr (b off cap:Nat)(zs:List Int)(w:World)(hl:zs.length=512)(hr:aT w b off zs)(hlt:b<w.heap.size)(hcap:512<=cap)(hm:cap<=maxLen)(hs:zs=cu zs)(hk:known (dT zs)) :
 Calls Tryz.prog 63 #[.slice (some ⟨b,off,none⟩) 512 cap] w fun e w'=>e= .returned (.tuple #[.agg (dH zs).toArray,.int .i64 (fB zs)])/\Below w.heap.size w w':=by
 have HZ:=ad QF;have HO:=ad QA;have HR:=ad hr;have HL:=ad hlt;have HLN:=ad hl;have HCAP:=ad hcap;have HM:=ad hm
 have HV:Hid (∀w',Below w.heap.size w w'->Calls Tryz.prog 106 #[.slice (some ⟨b,off,none⟩) 512 cap] w' fun e w''=>e= .returned (.int .i64 0)/\Below w'.heap.size w' w'') :=
  fun w' hb=>jC.yF _ cap zs w' 0 hl (.inr ⟨b,off,rfl,Nat.lt_of_lt_of_le hlt hb.size,hr.below hb hlt⟩) hr.2 (.inl ⟨hs,rfl⟩)
 obtain⟨z,hz0,z1,z2,_⟩:=hr.get 156 (by omega);have HC:Hid (∀w',Below w.heap.size w w'->w'.cell? ⟨b,off+156,none⟩=some (.int .u8 z)) :=fun w' hb=>by rw[hz0];exact(hr.below hb hlt).1 156 (by omega)
 have hkz:known z:=by rw[hz0];exact hk
 have HK:=fun w=>oh z w;rw[decide_eq_true hkz]at HK;have HKN:=ad HK;have GOOD:Hid (Fo zs->dH zs=bA (dT zs) (oN zs) (og zs) (oP zs) (pT zs) (pS zs)/\fB zs=0) :=fun h=>⟨(qc hl hs hk h).2,(qc hl hs hk h).1⟩;have BAD:Hid (¬Fo zs->dH zs=cr/\fB zs=6) :=fun h=>⟨(yQ hl hs hk h).2,(yQ hl hs hk h).1⟩;clear hr hl hs hk hz0 hlt hkz HK hcap hm;obtain⟨DH,hDH⟩:=named (dH zs);obtain⟨DE,hDE⟩:=named (fB zs);rw[<- hDH.out,<- hDE.out]at GOOD BAD;rw[<- hDH.out,<- hDE.out];go_enter Tryz.func63,Tryz.ntmps63;go_wp2_with (first| (refine ag rfl 130 rfl cr HZ.out ?_;intro w1 g1 b1;have H1:=ad g1;have B1:=ad b1;clear g1 b1));refine(HV.out _ B1.out).mono ?_;rintro e w2 ⟨rfl,b2⟩;have H2:=ad (H1.out.below b2 H1.out.lt);have B2:=ad (ar B1.out b2);have c:=HC.out w2 B2.out;clear b2;go_wp2_with fail;refine(HKN.out _).mono ?_;rintro e w4 ⟨rfl,rfl⟩;clear c;go_wp2_with (first| (refine ag rfl 130 rfl cr HZ.out ?_;intro w3 g3 b3;have H3:=ad g3;have B3:=ad b3;clear g3 b3));refine(qF _).mono ?_;rintro e w4 ⟨rfl,h4,b4⟩;have T4:=ad h4;have R4:=ad ((H2.out.below B3.out H2.out.lt).below b4 (Nat.lt_of_lt_of_le H2.out.lt B3.out.size));have O4:=ad (H3.out.below b4 H3.out.lt);have B4:=ad (ar (ar B2.out B3.out) b4);have LR:=ad H2.out.lt;have LO:=ad H3.out.lt;have LW:=ad B2.out.size;clear h4 b4;obtain⟨r,hrr⟩:=named w.heap.size;obtain⟨hb,hhb⟩:=named w2.heap.size;obtain⟨tb,htb⟩:=named w3.heap.size;rw[<- hrr.out]at R4 LR LW;rw[<- hhb.out]at O4 LO LR LW;rw[<- htb.out]at T4 LO;rw[<- hrr.out,<- hhb.out,<- htb.out];go_wp2_with fail;go_loopw [24] (fun i wr=>∃j:Nat,j<=13/\i= .int .i64 j/\ak wr hb 130 (hv zs j)/\ak wr tb 192 Ct/\ak wr r 130 cr/\Below w.heap.size w wr) (fun i _=>13- (intOf i).toNat)
 case atStart=>exact⟨0,Nat.zero_le _,rfl,O4.out,T4.out,R4.out,B4.out⟩
 case round=>
  obtain⟨j,hj,rfl,ho,ht,hr,hbb⟩:=hrel;have O:=ad ho;have T:=ad ht;have R:=ad hr;have B:=ad hbb;clear ho ht hr hbb;by_cases hlt:j<13
  ·have hlt': (j:Int) <13:=by omega
   have hrow:=Ac hlt;have PCj:Hid (gh zs j= (zs.drop (yb j)).take (wC j)) :=rfl;have FIT:=ad (pW hlt);have PE:Hid (∀args w,(callFunc (ug j) args).run Tryz.prog w= .ok (.enter (ug j) args) w) :=fun args w=>Db hlt args w;have PR:Hid (∀(a:Option Addr) (cap:Nat) (w:World),ak w hb 130 (hv zs j)->BytesIn w a (gh zs j)->wC j<=cap->cap<=maxLen->Calls Tryz.prog (ug j) #[.pointer (some ⟨hb,0,none⟩),.slice a (wC j) cap] w (sN hb (hv zs (j+1)) w)) :=fun a cap w=>Jk HLN.out hlt a cap hb w;obtain⟨of,hof⟩:=named (yb j);obtain⟨wd,hwd⟩:=named (wC j);obtain⟨f,hfn⟩:=named (uT j);obtain⟨p,hpn⟩:=named (ug j);rw[<- hof.out,<- hwd.out,<- hfn.out,<- hpn.out]at hrow;rw[<- hof.out,<- hwd.out]at FIT PCj;rw[<- hpn.out]at PE;rw[<- hwd.out,<- hpn.out]at PR;have RW:Hid (∀i u,(xV of wd f p)[i]? =some u->wr.cell? ⟨tb,j*4+i,none⟩=some u) :=fun i u hu=>T.out.get _ (hrow i u hu);clear hrow hof hwd hfn hpn;have HZF:Hid ((Tryz.prog.info? 192).map (·.zero) =some (some (.agg ([.int .i64 0,.int .i64 0,.nilFunc,.nilFunc] :List Value).toArray))) :=by show _=_;kernel_rfl
   have HT:Hid (ij Tryz.prog 192 4) :=⟨⟨_,Tryz.underlying192⟩,by kernel_rfl⟩;go_wp2_with (first| (refine cz rfl 192 4 HT.out _ rfl tb (j*4) rfl (xV of wd f p) rfl RW.out ?_) | (refine ag rfl 192 rfl [.int .i64 0,.int .i64 0,.nilFunc,.nilFunc] HZF.out ?_;intro w5 g5 b5;have H5:=ad g5;have B5:=ad b5;clear g5 b5) | (refine ae rfl 192 _ _ rfl wr.heap.size rfl (xV of wd f p) [.int .i64 0,.int .i64 0,.nilFunc,.nilFunc] rfl 192 H5.out HT.out.2 rfl (by simp[Value.oneCell']) ?_;intro w6 g6 t6;have H6:=ad g6;have T6:=ad t6;clear g6 t6));obtain⟨g,hg⟩:=named wr.heap.size;have LA:=ad O.out.lt;have LT:=ad T.out.lt;have LR':=ad R.out.lt;rw[<- hg.out]at H5 H6 T6 LA LT LR'
   have NG:Hid (Below w.heap.size w w6) :=by
    have h:w.heap.size<=g:=by rw[hg.out];exact B.out.size
    exact B.out.trans ((B5.out.mono B.out.size).trans (T6.out.below h))
   have O6:Hid (ak w6 hb 130 (hv zs j)) := (O.out.below B5.out O.out.lt).aD T6.out (Nat.ne_of_lt LA.out);have T6':Hid (ak w6 tb 192 Ct) := (T.out.below B5.out T.out.lt).aD T6.out (Nat.ne_of_lt LT.out);have R6:Hid (ak w6 r 130 cr) := (R.out.below B5.out R.out.lt).aD T6.out (Nat.ne_of_lt LR'.out);have N6:Hid (aT w6 b off zs) :=HR.out.below NG.out HL.out;have L6:Hid (b<w6.heap.size) :=Nat.lt_of_lt_of_le HL.out NG.out.size
   have KS:Hid (w6.drew.cell? ⟨g,0,none⟩=some (.int .i64 of)/\w6.drew.cell? ⟨g,1,none⟩=some (.int .i64 wd)/\w6.drew.cell? ⟨g,3,none⟩=some (.func (.func p) #[] #[])) :=by
    have h:=H6.out.below (Below.refl w6.heap.size w6).drew H6.out.lt;exact⟨h.get 0 rfl,h.get 1 rfl,h.get 3 rfl⟩
   have KT:Hid (∀w',Out hb (hb+1) w6.drew w'->w'.cell? ⟨g,0,none⟩=some (.int .i64 of)/\w'.cell? ⟨g,1,none⟩=some (.int .i64 wd)/\w'.cell? ⟨g,3,none⟩=some (.func (.func p) #[] #[])) :=fun w' hw=>by
    have h:= (H6.out.below (Below.refl w6.heap.size w6).drew H6.out.lt).out hw (.inr LA.out);exact⟨h.get 0 rfl,h.get 1 rfl,h.get 3 rfl⟩
   have PRj:Hid (Calls Tryz.prog p #[.pointer (some ⟨hb,0,none⟩),.slice (some ⟨b,off+of,none⟩) wd (cap- of)] w6.drew (sN hb (hv zs (j+1)) w6.drew)) :=by
    have hd:Below w6.heap.size w6 w6.drew:=aF.drew;refine PR.out _ _ _ (O6.out.below hd O6.out.lt) ?_ (by have:=FIT.out;have:=HCAP.out;omega) (Nat.le_trans (Nat.sub_le _ _) HM.out);rw[PCj.out];exact .inr ⟨b,off+of,rfl,L6.out,((N6.out.below hd L6.out).drop of).take wd⟩
   have o1: (of:Int)<=512:=by have:=FIT.out;omega
   obtain⟨en,hen⟩:=named (of+wd)
   have o2:IntKind.i64.wrap ((of:Int) + (wd:Int)) = (en:Int) :=by
    have h:=FIT.out;rw[hen.out,wrap_small (by omega) (by omega)];omega
   have o3:en<=cap:=by have:=FIT.out;have:=HCAP.out;have:=hen.out;omega
   have o4:of<=en:=by have:=hen.out;omega
   have o5:en- of=wd:=by have:=hen.out;omega
   have o6:¬cap=of:=by have:=FIT.out;have:=HCAP.out;omega
   go_simp;rw[<- hg.out];refine wp_region_held_drew (S:= (fun w'=>w'.cell? ⟨g,0,none⟩=some (.int .i64 of)/\w'.cell? ⟨g,1,none⟩=some (.int .i64 wd)/\w'.cell? ⟨g,3,none⟩=some (.func (.func p) #[] #[]))) (by kernel_rfl) (KS.out) (fun hHeld=>?_);refine aJ 0 (h:=aJ 1 (h:=aJ 2 (h:=aJ 3 (h:=?_))));simp only[Act.put,bB,bC,bD];refine aJ 4 (h:=aJ 5 (h:=aJ 6 (h:=aJ 7 (h:=?_))));simp only[Act.put,bB,bC,bD];refine aJ 8 (h:=aJ 9 (h:=aJ 10 (h:=?_)));simp only[Act.put,bB,bC,bD];refine rd 11 fun K hK=>?_;go_simp;rw[PE.out,Oper.upon_enter];refine PRj.out.mono ?_;rintro e w7 ⟨rfl,o7,u7⟩;have O7:=ad o7;have U7:=ad u7;clear o7 u7;go_wp2_with fail;refine hK.out _ _ (KT.out _ U7.out) (fun hHeld=>?_);clear hK K
   (try simp only[Act.put,bB,bC,bD])
   refine wpAnyH_done (by kernel_rfl) ?_ _;have WH:Hid (w.heap.size<=hb) :=by have h:=LR.out;have h':=hrr.out;show _<=_;omega
   have TN:=ad ((T6'.out.below (Below.refl w6.heap.size w6).drew T6'.out.lt).out U7.out (.inr LO.out));have RN:=ad ((R6.out.below (Below.refl w6.heap.size w6).drew R6.out.lt).out U7.out (.inl LR.out));have BN:=ad (NG.out.trans ((Below.refl w.heap.size w6).drew.trans (U7.out.below WH.out NG.out.size)));clear o1 o2 o3 o4 o5 o6;go_wp2;go_roundw
   case rel=>exact⟨j+1,by omega,by go_num,O7.out,TN.out,RN.out,BN.out⟩
   case measure=>simp[intOf];omega
  ·obtain rfl:j=13:=by omega
   have HZS:Hid (Bytes zs) :=HR.out.2;have N1:=ad (Jb HZS.out);have N2:=ad (Lu HZS.out);have N3:=ad (Jd HZS.out);have KB:Hid (0<=dT zs/\dT zs<=255) :=HZS.out.getD 156;have hE:Hid (Fo zs↔mA (dT zs) (oN zs) (og zs) (oP zs) (pT zs) (pS zs) =0/\dL (dT zs) (oN zs) (og zs) (oP zs) (pT zs) (pS zs) =zs) :=Jh;have OO:Hid (ak wr hb 130 (bA (dT zs) (oN zs) (og zs) (oP zs) (pT zs) (pS zs))) :=O.out;have WR:Hid (w.heap.size<=r) :=by have h':=hrr.out;show _<=_;omega
   obtain⟨dt,hdt⟩:=named (dT zs);obtain⟨nm,hnm⟩:=named (oN zs);obtain⟨pf,hpf⟩:=named (og zs);obtain⟨lk,hlk⟩:=named (oP zs);obtain⟨md,hmd⟩:=named (pT zs);obtain⟨sz,hsz⟩:=named (pS zs);rw[<- hdt.out,<- hnm.out,<- hpf.out,<- hlk.out,<- hmd.out,<- hsz.out]at OO hE GOOD;rw[<- hdt.out]at KB;rw[<- hnm.out]at N1;rw[<- hpf.out]at N2;rw[<- hlk.out]at N3;clear hdt hnm hpf hlk hmd hsz;have c0:=OO.out.get 0 rfl;have c1:=OO.out.get 1 rfl;have c2:=OO.out.get 2 rfl;have c3:=OO.out.get 3 rfl;have c4:=OO.out.get 4 rfl;have c5:=OO.out.get 5 rfl;by_cases hck:mA dt nm pf lk md sz=0
   ·have HEN:=ad (MJ dt nm pf lk md sz wr N1.out N2.out N3.out hck);have ELN:=ad (lT hck);by_cases he:dL dt nm pf lk md sz=zs
    ·obtain⟨g1,g2⟩:=GOOD.out (hE.out.2 ⟨hck,he⟩);subst g1;subst g2;rw[he]at HEN;clear BAD GOOD hE hck he ELN;go_wp2_with fail;refine HEN.out.mono ?_;rintro e w8 ⟨b8,c8,rfl,r8,l8,m8,_,_,d8⟩;have R8:=ad r8;have M8:=ad m8;have D8:=ad d8;clear r8 l8 m8 d8 c0 c1 c2 c3 c4 c5;have X8:Hid (BytesIn w8 (some ⟨b,off,none⟩) zs) := .inr ⟨b,off,rfl,Nat.lt_of_lt_of_le HL.out (ar B.out D8.out).size,HR.out.below (ar B.out D8.out) HL.out⟩;go_wp2_with fail;refine(tY (some ⟨b,off,none⟩) 512 cap zs (some ⟨b8,0,none⟩) 512 c8 zs _ X8.out HLN.out (.dS R8.out M8.out) HLN.out).mono ?_;rintro e w9 ⟨rfl,rfl⟩;rw[decide_eq_true rfl];have OO8:=ad (OO.out.below D8.out OO.out.lt);have RR8:=ad (R.out.below D8.out R.out.lt);have k0:=OO8.out.get 0 rfl;have k1:=OO8.out.get 1 rfl;have k2:=OO8.out.get 2 rfl;have k3:=OO8.out.get 3 rfl;have k4:=OO8.out.get 4 rfl;have k5:=OO8.out.get 5 rfl;go_wp2_with (first| (refine ae rfl 130 _ _ rfl r rfl (bA dt nm pf lk md sz) cr rfl 130 RR8.out HO.out.2 rfl (aY _ _ _ _ _ _) ?_;intro w10 q10 t10;have H10:=ad q10;have T10:=ad t10;clear q10 t10));exact bodyPost_ret (aH Tryz.results63 HO.out _ r rfl _ (bA dt nm pf lk md sz) H10.out rfl) rfl ⟨rfl,(ar B.out D8.out).trans (T10.out.below WR.out)⟩
    ·obtain⟨g1,g2⟩:=BAD.out (fun h=>he (hE.out.1 h).2);subst g1;subst g2;obtain⟨ys,hys⟩:=named (dL dt nm pf lk md sz);rw[<- hys.out]at HEN ELN he;have hne:decide (zs=ys) =false:=decide_eq_false (fun e=>he e.symm);clear BAD GOOD hE hck he hys;go_wp2_with fail;refine HEN.out.mono ?_;rintro e w8 ⟨b8,c8,rfl,r8,l8,m8,_,_,d8⟩;have R8:=ad r8;have M8:=ad m8;have D8:=ad d8;clear r8 l8 m8 d8 c0 c1 c2 c3 c4 c5;have X8:Hid (BytesIn w8 (some ⟨b,off,none⟩) zs) := .inr ⟨b,off,rfl,Nat.lt_of_lt_of_le HL.out (ar B.out D8.out).size,HR.out.below (ar B.out D8.out) HL.out⟩;go_wp2_with fail;refine(tY (some ⟨b,off,none⟩) 512 cap zs (some ⟨b8,0,none⟩) 512 c8 ys _ X8.out HLN.out (.dS R8.out M8.out) ELN.out).mono ?_;rintro e w9 ⟨rfl,rfl⟩;rw[hne];have RR8:=ad (R.out.below D8.out R.out.lt);go_wp2_with (first| (refine ae rfl 130 _ _ rfl r rfl cr cr rfl 130 RR8.out HO.out.2 rfl (aY _ _ _ _ _ _) ?_;intro w10 q10 t10;have H10:=ad q10;have T10:=ad t10;clear q10 t10));exact bodyPost_ret (aH Tryz.results63 HO.out _ r rfl _ cr H10.out rfl) rfl ⟨rfl,(ar B.out D8.out).trans (T10.out.below WR.out)⟩
   ·obtain⟨g1,g2⟩:=BAD.out (fun h=>hck (hE.out.1 h).1);subst g1;subst g2;have HEN:=ad (JE dt nm pf lk md sz wr N1.out N2.out N3.out KB.out hck);obtain⟨ck,hc⟩:=named (mA dt nm pf lk md sz);rw[<- hc.out]at HEN hck;have hne: (ck !=0) =true:=by simpa using hck
    clear BAD GOOD hE hck hc;go_wp2_with fail;refine HEN.out.mono ?_;rintro e w8 ⟨rfl,d8⟩;have D8:=ad d8;clear d8 c0 c1 c2 c3 c4 c5;have RR8:=ad (R.out.below D8.out R.out.lt);go_wp2_with (first| (refine ae rfl 130 _ _ rfl r rfl cr cr rfl 130 RR8.out HO.out.2 rfl (aY _ _ _ _ _ _) ?_;intro w10 q10 t10;have H10:=ad q10;have T10:=ad t10;clear q10 t10));exact bodyPost_ret (aH Tryz.results63 HO.out _ r rfl _ cr H10.out rfl) rfl ⟨rfl,(ar B.out D8.out).trans (T10.out.below WR.out)⟩
end Go.Proofs.YtcjagakckffkiaaGreatDoor.Ust
namespace Go.Proofs.YtcjagakckffkiaaGreatDoor.Ust
open Go.RowKit
open Oct Cst jC
theorem vK (a:Option Addr)(n cap:Nat)(zs:List Int)(w:World)(hb:BytesIn w a zs)(hl:zs.length=n)(hz:Bytes zs)(hc:n<=cap)(hm:cap<=maxLen) :
 Calls Tryz.prog 63 #[.slice a n cap] w fun e w'=>e= .returned (.tuple #[.agg (dH zs).toArray,.int .i64 (fB zs)])/\Below w.heap.size w w':=by
 by_cases h:n=512
 ·subst h
  obtain⟨b,off,rfl,hlt,hr⟩:∃b off,a=some ⟨b,off,none⟩/\b<w.heap.size/\aT w b off zs:=by
   rcases hb with hb|hb
   ·rw[hb]at hl;cases hl
   ·exact hb
  by_cases hs:zs=cu zs
  ·by_cases hk:known (dT zs)
   ·exact Cr b off cap zs w hl hr hlt hc hm hs hk
   ·obtain⟨e1,e2⟩:=zV hl hs hk;rw[e1,e2];exact Ib b off cap zs w hl hr hlt hs hk
  ·obtain⟨e1,e2⟩:=En hl hs;rw[e1,e2];exact Ah _ 512 cap w 9 (by decide) fun w' hb'=>jC.yF _ cap zs w' 9 hl (.inr ⟨b,off,rfl,Nat.lt_of_lt_of_le hlt hb'.size,hr.below hb' hlt⟩) hz (.inr ⟨hs,rfl⟩)
 ·obtain⟨e1,e2⟩:=EW (zs:=zs) (by rw[hl];exact h);rw[e1,e2];exact Ah a n cap w 2 (by decide) fun w' _=>jC.Jg a n cap w' h
end Go.Proofs.YtcjagakckffkiaaGreatDoor.Ust
