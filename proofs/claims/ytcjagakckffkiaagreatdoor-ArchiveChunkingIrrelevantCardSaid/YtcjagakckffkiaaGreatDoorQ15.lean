import Derived.Test.YtcjagakckffkiaaGreatDoorQ6
import Derived.Test.YtcjagakckffkiaaGreatDoorQ8
import Derived.Test.YtcjagakckffkiaaGreatDoorQ1
import Derived.Test.YtcjagakckffkiaaGreatDoorQ5
set_option maxHeartbeats 16000000
namespace Go.Proofs.YtcjagakckffkiaaGreatDoor.dO
open Go.RowKit Go.Proofs.YtcjagakckffkiaaGreatDoor.Fit bL Pnm
theorem QC:ij Tryz.prog 130 6:=⟨⟨_,Tryz.underlying130⟩,by kernel_rfl⟩
theorem QZ: (Tryz.prog.info? 130).map (·.zero) =some (some (.agg (Ust.cr).toArray)) :=by kernel_rfl
theorem Ip (T:Int)(a b c:ByteArray)(m z:Int) :∀v∈Ust.bA T a b c m z,v.oneCell'=true:=by simp[Value.oneCell']
theorem vk (z:Int)(w:World) :Calls Tryz.prog 151 #[.int .i64 z] w fun e w'=>e= .returned (.agg (Ust.bA 120 ir emp emp 0 z).toArray)/\Below w.heap.size w w':=by
 have HO:=ad QC;have HZ:=ad QZ;go_enter Tryz.func151,Tryz.ntmps151;go_wp2_with (first| (refine ag rfl 130 rfl Ust.cr HZ.out ?_;intro w1 h1 b1;have G1:=ad h1;have B1:=ad b1;clear h1 b1) | (refine ae rfl 130 _ _ rfl w.heap.size rfl (Ust.bA 120 ir emp emp 0 z) Ust.cr rfl 130 G1.out HO.out.2 rfl (Ip _ _ _ _ _ _) ?_;intro w2 g2 t2;have G2:=ad g2;have T2:=ad t2;clear g2 t2));exact bodyPost_ret (df Tryz.results151 HO.out _ w.heap.size rfl _ (Ust.bA 120 ir emp emp 0 z) G2.out rfl) rfl ⟨rfl,B1.out.trans (T2.out.below ah)⟩
end Go.Proofs.YtcjagakckffkiaaGreatDoor.dO
namespace Go.Proofs.YtcjagakckffkiaaGreatDoor
open Go.RowKit
theorem fC (z:Int)(hz:z<=9223372036854775807)(w:World) :Calls Tryz.prog 58 #[.int .i64 z] w fun e w'=>e= .returned (.int .i64 (aZ z.toNat:Nat))/\w=w':=by
 by_cases h0:z<=0
 ·have e:aZ z.toNat=0:=by rw[show z.toNat=0 by omega];rfl
  rw[e];clear hz e;go_enter Tryz.func58,Tryz.ntmps58;go_wp2;go_ret;exact⟨rfl,rfl⟩
 ·obtain⟨s,rfl⟩:∃s:Nat,z=s+1:=⟨(z- 1).toNat,by omega⟩
  have e: ((aZ ((s:Int) +1).toNat:Nat) :Int) = (s:Int) /512+1:=by
   rw[show((s:Int) +1).toNat=s+1 by omega];unfold aZ;omega
  rw[e];have h1:¬(s:Int) +1<=0:=by omega
  have h2: (s:Int) +1- 1=s:=by omega
  have h3: (s:Int)<=9223372036854775806:=by omega
  clear h0 e hz;go_enter Tryz.func58,Tryz.ntmps58;go_wp2;go_ret;exact⟨rfl,rfl⟩
theorem EU (d:Int)(w:World) :Calls Tryz.prog 68 #[.int .u8 d] w fun e w'=>e= .returned (.bool (d !=0))/\w=w':=by
 go_enter Tryz.func68,Tryz.ntmps68;go_wp2;go_ret;exact⟨rfl,rfl⟩
theorem qg (a:Option Addr)(n c:Nat)(P:List Int)(w:World)(hi:eJ .u8 w a P)(hl:P.length=n)(hn:n<=9223372036854775807) :
 Calls Tryz.prog 67 #[.slice a n c,.func (.func 68) #[] #[]] w fun e w'=>e= .returned (.int .i64 (if gx P<n then(gx P:Int)else-1))/\w=w':=by
 have HI:=ad hi;have HL:=ad hl;have hn': (n:Int)<=9223372036854775807:=by omega
 obtain⟨R,hR⟩:=named (if gx P<n then(gx P:Int)else-1);obtain⟨k,hk⟩:=named (gx P);rw[<- hR.out];clear hi hl hn;go_enter Tryz.func67,Tryz.ntmps67;go_wp2_with fail;go_loop [5,8] (fun _ i=>∃j:Nat,j<=k/\i= .int .i64 j) (fun _ i=>n- (intOf i).toNat)
 case atStart=>exact⟨0,Nat.zero_le _,rfl⟩
 case round=>
  obtain⟨j,hj,rfl⟩:=hrel;have HJ:=ad hj;clear hj;have hkn:k<=n:=by rw[hk.out,<- HL.out];exact oG P
  by_cases hlt:j<n
  ·have hlt': (j:Int) <n:=by omega
   obtain⟨b,off,rfl,_⟩:=HI.out.plain (by rw[HL.out];omega);obtain⟨d,hd⟩:=named (P.getD j 0);have hcell:=HI.out.get j (by rw[HL.out];exact hlt);rw[<- hd.out]at hcell;by_cases hjk:j<k
   ·have cr:d=0:=by rw[hd.out];exact kI (by rw[<- hk.out];exact hjk)
    have hne: (d !=0) =false:=by rw[cr];rfl
    clear hd cr;go_wp2_with fail;refine(EU d w).mono ?_;rintro e w1 ⟨rfl,rfl⟩;rw[hne];go_wp2_with fail
    go_round
    case rel=>exact⟨j+1,by omega,by go_num⟩
    case measure=>simp[intOf];omega
   ·obtain rfl:j=k:=by have:=HJ.out;omega
    have cr:d≠0:=by rw[hd.out,hk.out];exact uC (by rw[<- hk.out,HL.out];omega)
    have hne: (d !=0) =true:=by simp[cr]
    have hR1:R=j:=by rw[hR.out,<- hk.out,if_pos hlt]
    clear hR hd cr;subst hR1;go_wp2_with fail;refine(EU d w).mono ?_;rintro e w1 ⟨rfl,rfl⟩;rw[hne];go_wp2_with fail;go_ret;exact⟨rfl,rfl⟩
  ·have hj:j=n:=by have:=HJ.out;omega
   have hR1:R= -1:=by rw[hR.out,<- hk.out,if_neg (by have:=HJ.out;omega)]
   clear hR;subst hR1;subst hj;go_wp2_with fail;go_ret;exact⟨rfl,rfl⟩
end Go.Proofs.YtcjagakckffkiaaGreatDoor
namespace Go.Proofs.YtcjagakckffkiaaGreatDoor
open Go.RowKit
set_option maxRecDepth 100000 in
theorem lO (a:Option Addr)(n cap:Nat)(zs:List Int)(w:World)(hb:eJ .u8 w a zs)(hl:zs.length=n)(hn:n<=140737488355328) :
 Calls Tryz.prog 41 #[.slice a n cap] w fun e w'=>∃v,e= .returned v/\w'.ownsRow w.heap.size 5 1 v n (zs.map (.int .u8))/\Below w.heap.size w w':=by
 have HB:=ad hb;clear hb;have HL:=ad hl;clear hl;have HN:=ad hn;clear hn;have HE:=ad Nu;have he: (Tryz.prog.info? 5).map (·.size) =some 1:=by obtain⟨i,h1,_,h2,_⟩:=Nu;simp[h1,h2]
 have HE1:=ad he;clear he;have he:∀w:World,(binOp .eql 25 (.slice none n cap) (.slice none 0 0)).run Tryz.prog w= .ok (.bool true) w:=fun _=>rfl;have he':∀(x:Addr) (w:World),(binOp .eql 25 (.slice (some x) n cap) (.slice none 0 0)).run Tryz.prog w= .ok (.bool false) w:=fun _ _=>rfl
 cases a with
 |none=>
  have h0:zs= [] :=by
   rcases HB.out with h|⟨_,_,h,_⟩
   ·exact h
   ·cases h
  subst h0;obtain rfl:n=0:=HL.out.symm;go_enter Tryz.func41,Tryz.ntmps41;go_wp2;go_ret;exact⟨_,rfl,⟨rfl,.inl ⟨rfl,rfl⟩⟩,aF⟩
 |some x=>
  go_enter Tryz.func41,Tryz.ntmps41;go_wp2_with (first| (refine jh rfl 25 5 .u8 rfl Tryz.underlying25 HE1.out ?_;intro w1 h1 b1;have O1:=ad h1;have B1:=ad b1;clear h1 b1) | (at_builtin;refine dD rfl _ _ 25 rfl w.heap.size 5 .u8 1 Tryz.underlying25 HE.out (.slice (some ⟨w.heap.size,0,none⟩) 0 0) 0 [] rfl O1.out (some x) n cap zs rfl (HB.out.below B1.out) HL.out (by have:=HN.out;unfold maxLen;omega) (by have:=HN.out;omega) B1.out.size ?_;intro v2 w2 h2 b2;rw[Nat.zero_add,List.nil_append]at h2;have O2:=ad h2;have B2:=ad b2;clear h2 b2));go_ret;exact⟨_,rfl,O2.out,B1.out.trans B2.out⟩
end Go.Proofs.YtcjagakckffkiaaGreatDoor
namespace Go.Proofs.YtcjagakckffkiaaGreatDoor
open Go.RowKit
set_option maxRecDepth 100000 in
theorem uv (a:Option Addr)(n cap:Nat)(zs:List Int)(w:World)(hb:eJ .i64 w a zs)(hl:zs.length=n)(hn:n<=17592186044416) :
 Calls Tryz.prog 40 #[.slice a n cap] w fun e w'=>∃v,e= .returned v/\w'.ownsRow w.heap.size 3 1 v n (zs.map (.int .i64))/\Below w.heap.size w w':=by
 have HB:=ad hb;clear hb;have HL:=ad hl;clear hl;have HN:=ad hn;clear hn;have HE:=ad Oz;have he: (Tryz.prog.info? 3).map (·.size) =some 1:=by obtain⟨i,h1,_,h2,_⟩:=Oz;simp[h1,h2]
 have HE1:=ad he;clear he;have he:∀w:World,(binOp .eql 32 (.slice none n cap) (.slice none 0 0)).run Tryz.prog w= .ok (.bool true) w:=fun _=>rfl;have he':∀(x:Addr) (w:World),(binOp .eql 32 (.slice (some x) n cap) (.slice none 0 0)).run Tryz.prog w= .ok (.bool false) w:=fun _ _=>rfl
 cases a with
 |none=>
  have h0:zs= [] :=by
   rcases HB.out with h|⟨_,_,h,_⟩
   ·exact h
   ·cases h
  subst h0;obtain rfl:n=0:=HL.out.symm;go_enter Tryz.func40,Tryz.ntmps40;go_wp2;go_ret;exact⟨_,rfl,⟨rfl,.inl ⟨rfl,rfl⟩⟩,aF⟩
 |some x=>
  go_enter Tryz.func40,Tryz.ntmps40;go_wp2_with (first| (refine jh rfl 32 3 .i64 rfl Tryz.underlying32 HE1.out ?_;intro w1 h1 b1;have O1:=ad h1;have B1:=ad b1;clear h1 b1) | (at_builtin;refine dD rfl _ _ 32 rfl w.heap.size 3 .i64 8 Tryz.underlying32 HE.out (.slice (some ⟨w.heap.size,0,none⟩) 0 0) 0 [] rfl O1.out (some x) n cap zs rfl (HB.out.below B1.out) HL.out (by have:=HN.out;unfold maxLen;omega) (by have:=HN.out;omega) B1.out.size ?_;intro v2 w2 h2 b2;rw[Nat.zero_add,List.nil_append]at h2;have O2:=ad h2;have B2:=ad b2;clear h2 b2));go_ret;exact⟨_,rfl,O2.out,B1.out.trans B2.out⟩
end Go.Proofs.YtcjagakckffkiaaGreatDoor
namespace Go.Proofs.YtcjagakckffkiaaGreatDoor
open Go.RowKit
def jC (w:World)(c:Nat)(sa:Option Addr)(sc:Nat)(cs:List Int)(r:Nat) :Prop:=
 ak w c 88 [.slice sa cs.length sc,.int .i64 (Dd cs r)]/\eJ .i64 w sa cs/\cs.length<=140737488355328/\∀x,sa=some x->x.block≠c
theorem kp (c:Nat)(sa:Option Addr)(sc:Nat)(cs:List Int)(r:Nat)(w:World)(h:jC w c sa sc cs r) :
 Calls Tryz.prog 42 #[.pointer (some ⟨c,0,none⟩)] w fun e w'=>e= .returned (.int .i64 (dN cs r))/\jC w' c sa sc cs (r+1)/\Out c (c+1) w w':=by
 have H:=ad h;obtain⟨ho,hi,hm,hx⟩:=h;have HO:=ad ho;by_cases hz:cs.length=0
 ·have HZ:=ad hz;have c0:w.cell? ⟨c,0,none⟩=some (.slice sa 0 sc) :=by have:=ho.get 0 rfl;rwa [hz]at this
  clear ho hi hm hx hz;go_enter Tryz.func42,Tryz.ntmps42;go_wp2;go_ret;refine⟨?_,?_,.refl _ _ _⟩
  ·unfold dN;rw[if_pos HZ.out];rfl
  ·have:=H.out;unfold jC Dd at this⊢;rw[if_pos HZ.out]at this⊢;exact this
 ·obtain⟨L,hL⟩:=named cs.length;obtain⟨i,hI⟩:=named (r % cs.length);obtain⟨d,hd⟩:=named (cs.getD i 0);have e1:Dd cs r=i:=by unfold Dd;rw[if_neg hz,hI.out]
  have hlt:i<cs.length:=by rw[hI.out];exact Nat.mod_lt _ (by omega)
  obtain⟨b,off,rfl,hb⟩:=hi.plain (by omega);have cd:=hi.get i hlt;have cf:=ho.frozen 1;rw[<- hd.out]at cd;have c0:w.cell? ⟨c,0,none⟩=some (.slice (some ⟨b,off,none⟩) L sc) :=by have:=ho.get 0 rfl;rwa [<- hL.out]at this
  have c1:w.cell? ⟨c,1,none⟩=some (.int .i64 i) :=by have:=ho.get 1 rfl;rwa [e1]at this
  have hxb:b≠c:=hx _ rfl;have hm':L<=140737488355328:=by rw[hL.out];exact hm
  have hlt': (i:Int) <L:=by rw[hL.out];omega
  have hL0:¬L=0:=by rw[hL.out];exact hz
  have HX:=ad hx;have HXB:=ad hxb;have HM:=ad hm;have HZ:=ad hz;have E1:=ad e1;have HLT:=ad hlt;have HIN:=ad hi;clear ho hi hm hx hz e1 hlt hxb;go_enter Tryz.func42,Tryz.ntmps42;go_wp2;go_quiet (fail);go_wp2
  have hnext: ((i:Int) +1) % (L:Int) = (Dd cs (r+1) :Nat) :=by
   unfold Dd;rw[if_neg HZ.out,hL.out,hI.out];rw[show((r % cs.length:Nat) :Int) +1= ((r % cs.length+1:Nat) :Int) by omega,<- Int.natCast_emod,Nat.mod_add_mod]
  have hck:dN cs r=max d 1:=by unfold dN;rw[if_neg HZ.out,hd.out,hI.out]
  have HN:=ad hnext;have HK:=ad hck;clear hnext hck
  have fin:∀nq,jC ((w.drewN nq).setCell ⟨c,1,none⟩ (.int .i64 ((i+1:Int) % L))) c (some ⟨b,off,none⟩) sc cs (r+1)/\Out c (c+1) w ((w.drewN nq).setCell ⟨c,1,none⟩ (.int .i64 ((i+1:Int) % L))) :=by
   intro nq;have ho:ak (w.drewN nq) c 88 _:=HO.out;refine⟨⟨?_,(show eJ .i64 (w.drewN nq) _ cs from HIN.out).set _ HX.out,HM.out,HX.out⟩,?_⟩
   ·rw[HN.out];exact ho.set 1 _
   ·have:Out c (c+1) w (w.drewN nq) :=⟨rfl,rfl,rfl,ah,fun _ _ _=>rfl⟩;exact this.setCell ah (Nat.lt_succ_self _) _
  have FIN:=ad fin;clear fin;by_cases Ip:1<=d
  ·have HKd:Hid (dN cs r=d) :=by show _=_;rw[HK.out];omega
   have hmx:max d 1=d:=by omega
   go_region
   all_goals (go_wp2;go_ret;exact⟨by rw[HKd.out];rfl,FIN.out _⟩)
  ·have HKd:Hid (dN cs r=1) :=by show _=_;rw[HK.out];omega
   have hmx:max d 1=1:=by omega
   go_region
   all_goals (go_wp2;go_ret;exact⟨by rw[HKd.out];rfl,FIN.out _⟩)
end Go.Proofs.YtcjagakckffkiaaGreatDoor
namespace Go.Proofs.YtcjagakckffkiaaGreatDoor
open Go.RowKit
def Src (w:World)(lo hi s:Nat)(zs:List Int)(E:Int)(cs:List Int)(o r:Nat) :Prop:=
 ∃c da dc sa sc,ak w s 92 [.slice da zs.length dc,.int .i64 E,.int .i64 o,.int .i64 r,.func (.func 42) #[.pointer (some ⟨c,0,none⟩)] #[]]/\
  jC w c sa sc cs r/\BytesIn w da zs/\zs.length<=dc/\dc<=maxLen/\zs.length<=140737488355328/\
  (lo<=s/\s<hi/\lo<=c/\c<hi/\s≠c/\hi<=w.heap.size)/\
  (∀x,da=some x->lo<=x.block/\x.block<hi/\x.block≠s/\x.block≠c)/\ (∀x,sa=some x->lo<=x.block/\x.block<hi/\x.block≠s)/\o<=zs.length/\r<=o
theorem jC.out {w w':World}{c lo hi:Nat}{sa:Option Addr}{sc:Nat}{cs:List Int}{r:Nat}(h:jC w c sa sc cs r)(ho:Out lo hi w w')(hc:c<lo\/hi<=c)(hs:∀x,sa=some x->x.block<lo\/hi<=x.block) :jC w' c sa sc cs r:=by
 obtain⟨h1,h2,h3,h4⟩:=h;exact⟨h1.out ho hc,h2.out ho hs,h3,h4⟩
theorem Src.out {w w':World}{lo hi s lo' hi':Nat}{zs cs:List Int}{E:Int}{o r:Nat}(h:Src w lo hi s zs E cs o r)(ho:Out lo' hi' w w')(hd:hi<=lo'\/hi'<=lo) :Src w' lo hi s zs E cs o r:=by
 obtain⟨c,da,dc,sa,sc,h1,h2,h3,h4,h5,h6,h7,h8,h9,h10⟩:=h;refine⟨c,da,dc,sa,sc,h1.out ho (by omega),h2.out ho (by omega) (fun x hx=>by have:=h9 x hx;omega),h3.out ho (fun x hx=>by have:=h8 x hx;omega),h4,h5,h6,?_,h8,h9,h10⟩;have:=ho.size;omega
theorem Src.below {w w':World}{lo hi s:Nat}{zs cs:List Int}{E:Int}{o r:Nat}(h:Src w lo hi s zs E cs o r)(hb:Below w.heap.size w w') :Src w' lo hi s zs E cs o r:=by
 have hh:hi<=w.heap.size:=by obtain⟨_,_,_,_,_,_,_,_,_,_,_,h7,_⟩:=h;exact h7.2.2.2.2.2
 exact h.out (lo':=hi) (hi':=hi) (.aq hb ah) (.inl ah)
def sy (F:Int)(n:Nat) :Nat:=if 0<=F/\F<=n then F.toNat else n
def oV (F:Int)(n:Nat) :Int:=if 0<=F/\F<=n then 11 else 4
theorem kX (a:Option Addr)(n cap:Nat)(zs:List Int)(ca:Option Addr)(cl cc:Nat)(cs:List Int)(F:Int)(w:World)(hb:BytesIn w a zs)(hl:zs.length=n)(hnc:n<=cap)(hn:n<=140737488355328)
 (hi:eJ .i64 w ca cs)(hcl:cs.length=cl)(hc:cl<=17592186044416) :
 Calls Tryz.prog 17 #[.slice a n cap,.agg #[.slice ca cl cc,.int .i64 F]] w fun e w'=>∃s,e= .returned (.pointer (some ⟨s,0,none⟩))/\
  Src w' w.heap.size w'.heap.size s (zs.take (sy F n)) (oV F n) cs 0 0/\Below w.heap.size w w':=by
 have HB:=ad hb;have HL:=ad hl;have HI:=ad hi;have HCL:=ad hcl;have HC:=ad hc;have HN:=ad hn;have HNC:=ad hnc;clear hb hl hi hcl hc;have hmf:∀(fn:Fn) (first cap:Array Value) (w:World),(Instr.makeFunc fn first cap).run Tryz.prog w= .ok (.func fn first cap) w:=fun _ _ _ _=>rfl;have hz: (Tryz.prog.info? 88).map (·.zero) =some (some (.agg [Value.slice none 0 0,.int .i64 0].toArray)) :=by kernel_rfl
 have hs: (Tryz.prog.info? 88).map (·.size) =some 2:=by kernel_rfl
 have HZ:=ad hz;have HS:=ad hs;clear hz hs;by_cases hF:0<=F/\F<=n
 ·obtain⟨f,rfl⟩:∃f:Nat,F=f:=⟨F.toNat,by omega⟩;have hfn:f<=n:=by omega
  have hfn': (f:Int)<=n:=by omega
  have hfc:f<=cap:=by omega
  have E1:Hid (sy f n=f) :=by show _=_;unfold sy;rw[if_pos hF];rfl
  have E2:Hid (oV f n=11) :=by show _=_;unfold oV;rw[if_pos hF]
  have h0f: (0:Int)<= (f:Int) :=by omega
  clear hF;rw[E1.out,E2.out];go_enter Tryz.func17,Tryz.ntmps17;go_wp2_with (first| (refine aj rfl 34 _ rfl [.slice ca cl cc,.int .i64 f] rfl ?_;intro w1 h1 b1;have H1:=ad h1;have B1:=ad b1;have c0:=h1.get 0 rfl;have c1:=h1.get 1 rfl;clear h1 b1));refine(uv ca cl cc cs w1 (HI.out.below B1.out) HCL.out HC.out).mono ?_;rintro e w2 ⟨v2,rfl,o2,b2⟩;obtain⟨sa,sc,rfl,i2,_,_,_,x2⟩:=bl o2;have B2:=ad (B1.out.trans (b2.mono B1.out.size));have I2:=ad i2;have X2:=ad x2;have G1:=ad B1.out.size;have LT1:=ad H1.out.lt;have G2:=ad b2.size;clear o2 b2 i2 x2 c0 c1;go_wp2_with (first| (refine ag rfl 88 rfl [.slice none 0 0,.int .i64 0] HZ.out ?_;intro w3 h3 b3;have H3:=ad h3;have B3:=ad b3;clear h3 b3) | (refine ae rfl 88 _ _ rfl w2.heap.size rfl [.slice sa cl sc,.int .i64 0] [.slice none 0 0,.int .i64 0] rfl 88 H3.out HS.out rfl (by intro v hv;simp at hv;rcases hv with rfl|rfl<;>rfl) ?_;intro w4 h4 t4;have H4:=ad h4;have T4:=ad t4;clear h4 t4));have B4:=ad (B3.out.trans (T4.out.below ah));have Z4:=ad (B2.out.trans (B4.out.mono B2.out.size));have L4:=ad H4.out.lt;refine(lO a f cap (zs.take f) w4 ((HB.out.below Z4.out).take f).Bu (by rw[List.length_take,HL.out];omega) (by have:=HN.out;omega)).mono ?_;rintro e w5 ⟨v5,rfl,o5,b5⟩;obtain⟨da,dc,rfl,i5,pg,nQ,_,x5⟩:=bl o5;have B5:=ad b5;have I5:=ad i5;have X5:=ad x5;have D1:=ad pg;have D2:=ad nQ;clear o5 b5 i5 x5 pg nQ;go_wp2_with (first| (refine aj rfl 92 _ rfl [.slice da f dc,.int .i64 11,.int .i64 0,.int .i64 0,.func (.func 42) #[.pointer (some ⟨w2.heap.size,0,none⟩)] #[]] rfl ?_;intro w6 h6 b6;have H6:=ad h6;have B6:=ad b6;clear h6 b6));go_ret;have g1:=G1.out;have g2:=G2.out;have l1:=LT1.out;have l4:=L4.out;have g5:=B5.out.size;have l6:=H6.out.lt;have g6:=B6.out.size;have g4:=B4.out.size;have b46:=B5.out.trans (B6.out.mono B5.out.size);have b06:=Z4.out.trans (b46.mono Z4.out.size);have b26:=B4.out.trans (b46.mono B4.out.size);have lz: (zs.take f).length=f:= (by rw[List.length_take,HL.out];omega);refine⟨_,rfl,⟨w2.heap.size,da,dc,sa,sc,by rw[lz];exact H6.out,⟨?_,I2.out.below b26,by rw[HCL.out];have:=HC.out;omega,fun x hx=>by have:=X2.out x hx;omega⟩,(I5.out.bytes ((HB.out.below Z4.out).take f).bytes).below B6.out,by rw[lz];exact D1.out,D2.out,by rw[lz];have:=HN.out;omega,?_,fun x hx=>by have:=X5.out x hx;omega,fun x hx=>by have:=X2.out x hx;omega,Nat.zero_le _,ah⟩,b06⟩
  ·have:Dd cs 0=0:=by unfold Dd;split<;>simp
   rw[this,HCL.out];exact H4.out.below b46 L4.out
  ·omega
 ·have E1:Hid (sy F n=n) :=by show _=_;unfold sy;rw[if_neg hF]
  have E2:Hid (oV F n=4) :=by show _=_;unfold oV;rw[if_neg hF]
  have h1:0<=F->¬F<=n:=fun h h'=>hF ⟨h,h'⟩;clear hF;have ez:zs.take n=zs:=List.take_of_length_le (by rw[HL.out];exact ah);rw[E1.out,E2.out,ez];clear ez;by_cases h0:0<=F
  ·have h1:=h1 h0;go_enter Tryz.func17,Tryz.ntmps17;go_wp2_with (first| (refine aj rfl 34 _ rfl [.slice ca cl cc,.int .i64 F] rfl ?_;intro w1 h1 b1;have H1:=ad h1;have B1:=ad b1;have c0:=h1.get 0 rfl;have c1:=h1.get 1 rfl;clear h1 b1));refine(uv ca cl cc cs w1 (HI.out.below B1.out) HCL.out HC.out).mono ?_;rintro e w2 ⟨v2,rfl,o2,b2⟩;obtain⟨sa,sc,rfl,i2,_,_,_,x2⟩:=bl o2;have B2:=ad (B1.out.trans (b2.mono B1.out.size));have I2:=ad i2;have X2:=ad x2;have G1:=ad B1.out.size;have LT1:=ad H1.out.lt;have G2:=ad b2.size;clear o2 b2 i2 x2 c0 c1;go_wp2_with (first| (refine ag rfl 88 rfl [.slice none 0 0,.int .i64 0] HZ.out ?_;intro w3 h3 b3;have H3:=ad h3;have B3:=ad b3;clear h3 b3) | (refine ae rfl 88 _ _ rfl w2.heap.size rfl [.slice sa cl sc,.int .i64 0] [.slice none 0 0,.int .i64 0] rfl 88 H3.out HS.out rfl (by intro v hv;simp at hv;rcases hv with rfl|rfl<;>rfl) ?_;intro w4 h4 t4;have H4:=ad h4;have T4:=ad t4;clear h4 t4));have B4:=ad (B3.out.trans (T4.out.below ah));have Z4:=ad (B2.out.trans (B4.out.mono B2.out.size));have L4:=ad H4.out.lt;refine(lO a n cap zs w4 (HB.out.below Z4.out).Bu HL.out HN.out).mono ?_;rintro e w5 ⟨v5,rfl,o5,b5⟩;obtain⟨da,dc,rfl,i5,pg,nQ,_,x5⟩:=bl o5;have B5:=ad b5;have I5:=ad i5;have X5:=ad x5;have D1:=ad pg;have D2:=ad nQ;clear o5 b5 i5 x5 pg nQ;go_wp2_with (first| (refine aj rfl 92 _ rfl [.slice da n dc,.int .i64 4,.int .i64 0,.int .i64 0,.func (.func 42) #[.pointer (some ⟨w2.heap.size,0,none⟩)] #[]] rfl ?_;intro w6 h6 b6;have H6:=ad h6;have B6:=ad b6;clear h6 b6));go_ret;have g1:=G1.out;have g2:=G2.out;have l1:=LT1.out;have l4:=L4.out;have g5:=B5.out.size;have l6:=H6.out.lt;have g6:=B6.out.size;have g4:=B4.out.size;have b46:=B5.out.trans (B6.out.mono B5.out.size);have b06:=Z4.out.trans (b46.mono Z4.out.size);have b26:=B4.out.trans (b46.mono B4.out.size);have lz:zs.length=n:=HL.out;refine⟨_,rfl,⟨w2.heap.size,da,dc,sa,sc,by rw[lz];exact H6.out,⟨?_,I2.out.below b26,by rw[HCL.out];have:=HC.out;omega,fun x hx=>by have:=X2.out x hx;omega⟩,(I5.out.bytes (HB.out.below Z4.out).bytes).below B6.out,by rw[lz];exact D1.out,D2.out,by rw[lz];have:=HN.out;omega,?_,fun x hx=>by have:=X5.out x hx;omega,fun x hx=>by have:=X2.out x hx;omega,Nat.zero_le _,ah⟩,b06⟩
   ·have:Dd cs 0=0:=by unfold Dd;split<;>simp
    rw[this,HCL.out];exact H4.out.below b46 L4.out
   ·omega
  ·clear h1;go_enter Tryz.func17,Tryz.ntmps17;go_wp2_with (first| (refine aj rfl 34 _ rfl [.slice ca cl cc,.int .i64 F] rfl ?_;intro w1 h1 b1;have H1:=ad h1;have B1:=ad b1;have c0:=h1.get 0 rfl;have c1:=h1.get 1 rfl;clear h1 b1));refine(uv ca cl cc cs w1 (HI.out.below B1.out) HCL.out HC.out).mono ?_;rintro e w2 ⟨v2,rfl,o2,b2⟩;obtain⟨sa,sc,rfl,i2,_,_,_,x2⟩:=bl o2;have B2:=ad (B1.out.trans (b2.mono B1.out.size));have I2:=ad i2;have X2:=ad x2;have G1:=ad B1.out.size;have LT1:=ad H1.out.lt;have G2:=ad b2.size;clear o2 b2 i2 x2 c0 c1;go_wp2_with (first| (refine ag rfl 88 rfl [.slice none 0 0,.int .i64 0] HZ.out ?_;intro w3 h3 b3;have H3:=ad h3;have B3:=ad b3;clear h3 b3) | (refine ae rfl 88 _ _ rfl w2.heap.size rfl [.slice sa cl sc,.int .i64 0] [.slice none 0 0,.int .i64 0] rfl 88 H3.out HS.out rfl (by intro v hv;simp at hv;rcases hv with rfl|rfl<;>rfl) ?_;intro w4 h4 t4;have H4:=ad h4;have T4:=ad t4;clear h4 t4));have B4:=ad (B3.out.trans (T4.out.below ah));have Z4:=ad (B2.out.trans (B4.out.mono B2.out.size));have L4:=ad H4.out.lt;refine(lO a n cap zs w4 (HB.out.below Z4.out).Bu HL.out HN.out).mono ?_;rintro e w5 ⟨v5,rfl,o5,b5⟩;obtain⟨da,dc,rfl,i5,pg,nQ,_,x5⟩:=bl o5;have B5:=ad b5;have I5:=ad i5;have X5:=ad x5;have D1:=ad pg;have D2:=ad nQ;clear o5 b5 i5 x5 pg nQ;go_wp2_with (first| (refine aj rfl 92 _ rfl [.slice da n dc,.int .i64 4,.int .i64 0,.int .i64 0,.func (.func 42) #[.pointer (some ⟨w2.heap.size,0,none⟩)] #[]] rfl ?_;intro w6 h6 b6;have H6:=ad h6;have B6:=ad b6;clear h6 b6));go_ret;have g1:=G1.out;have g2:=G2.out;have l1:=LT1.out;have l4:=L4.out;have g5:=B5.out.size;have l6:=H6.out.lt;have g6:=B6.out.size;have g4:=B4.out.size;have b46:=B5.out.trans (B6.out.mono B5.out.size);have b06:=Z4.out.trans (b46.mono Z4.out.size);have b26:=B4.out.trans (b46.mono B4.out.size);have lz:zs.length=n:=HL.out;refine⟨_,rfl,⟨w2.heap.size,da,dc,sa,sc,by rw[lz];exact H6.out,⟨?_,I2.out.below b26,by rw[HCL.out];have:=HC.out;omega,fun x hx=>by have:=X2.out x hx;omega⟩,(I5.out.bytes (HB.out.below Z4.out).bytes).below B6.out,by rw[lz];exact D1.out,D2.out,by rw[lz];have:=HN.out;omega,?_,fun x hx=>by have:=X5.out x hx;omega,fun x hx=>by have:=X2.out x hx;omega,Nat.zero_le _,ah⟩,b06⟩
   ·have:Dd cs 0=0:=by unfold Dd;split<;>simp
    rw[this,HCL.out];exact H4.out.below b46 L4.out
   ·omega
end Go.Proofs.YtcjagakckffkiaaGreatDoor
namespace Go.Proofs.YtcjagakckffkiaaGreatDoor
open Go.RowKit
def jI (L:Nat)(cs:List Int)(o r:Nat)(n:Int) :Nat:= (min (min n (dN cs r)) ((L- o:Nat) :Int)).toNat
def pG (zs cs:List Int)(o r:Nat)(n:Int) :List Int:=if n<1\/o=zs.length then []else(zs.drop o).take (jI zs.length cs o r n)
def ly (zs:List Int)(E:Int)(o:Nat)(n:Int) :Int:=if n<1 then 2 else if o=zs.length then E else 0
def qW (zs cs:List Int)(o r:Nat)(n:Int) :Nat:=if n<1\/o=zs.length then o else o+jI zs.length cs o r n
def tv (zs:List Int)(o r:Nat)(n:Int) :Nat:=if n<1\/o=zs.length then r else r+1
set_option maxRecDepth 100000 in
theorem vN {lo hi s:Nat}{zs cs:List Int}{E:Int}{o r:Nat}(n:Int)(w:World)(h:Src w lo hi s zs E cs o r) :
 Calls Tryz.prog 102 #[.pointer (some ⟨s,0,none⟩),.int .i64 n] w fun e w'=>∃v,e= .returned (.tuple #[v,.int .i64 (ly zs E o n)])/\
  w'.ownsRow w.heap.size 5 1 v (pG zs cs o r n).length ((pG zs cs o r n).map (.int .u8))/\Src w' lo hi s zs E cs (qW zs cs o r n) (tv zs o r n)/\Out lo hi w w':=by
 have H:=ad h;obtain⟨c,da,dc,sa,sc,h1,h2,h3,h4,h5,h6,h7,h8,h9,h10⟩:=h;have H1:=ad h1;have H2:=ad h2;have H3:=ad h3;have H4:=ad h4;have H5:=ad h5;have H6:=ad h6;have H7:=ad h7;have H8:=ad h8;have H9:=ad h9;have H10:=ad h10;clear h2 h3 h4 h5 h6 h7 h8 h9 h10;by_cases hn:n<1
 ·have e1:pG zs cs o r n= [] :=if_pos (.inl hn);have e2:ly zs E o n=2:=if_pos hn;have e3:qW zs cs o r n=o:=if_pos (.inl hn);have e4:tv zs o r n=r:=if_pos (.inl hn);rw[e1,e2,e3,e4];clear e1 e2 e3 e4 h1;go_enter Tryz.func102,Tryz.ntmps102;go_wp2;go_ret2;exact⟨_,rfl,kA _ _ _ _,H.out,.refl _ _ _⟩
 ·have hn': (1:Int)<=n:=by omega
  have hn0:¬n<1:=hn;have c0:=h1.get 0 rfl;have c1:=h1.get 1 rfl;have c2:=h1.get 2 rfl;have c3:=h1.get 3 rfl;have c4:=h1.get 4 rfl;have f2:=h1.frozen 2;have f3:=h1.frozen 3;obtain⟨L,hL⟩:=named zs.length;rw[<- hL.out]at c0;by_cases ho:o=zs.length
  ·have e1:pG zs cs o r n= [] :=if_pos (.inr ho);have e2:ly zs E o n=E:=by unfold ly;rw[if_neg hn,if_pos ho]
   have e3:qW zs cs o r n=o:=if_pos (.inr ho);have e4:tv zs o r n=r:=if_pos (.inr ho);rw[e1,e2,e3,e4];obtain rfl:o=L:=ho.trans hL.out.symm;clear e1 e2 e3 e4 h1 ho hn;go_enter Tryz.func102,Tryz.ntmps102;go_wp2;go_quiet (fail);go_wp2;go_quiet (fail);go_wp2;go_ret2;exact⟨_,rfl,kA _ _ _ _,H.out.out ((iW lo lo w _).trans (iW _ _ _ _)) (.inr ah),(iW _ _ w _).trans (iW _ _ _ _)⟩
  ·have e1:pG zs cs o r n= (zs.drop o).take (jI zs.length cs o r n) :=if_neg (by omega);have e2:ly zs E o n=0:=by unfold ly;rw[if_neg hn,if_neg ho]
   have e3:qW zs cs o r n=o+jI zs.length cs o r n:=if_neg (by omega);have e4:tv zs o r n=r+1:=if_neg (by omega);rw[e1,e2,e3,e4];have HE:=ad h1;clear e1 e2 e3 e4 h1;have hoL:o<L:=by rw[hL.out];have:= (H10.out).1;omega
   have hne: ((o:Int) ==L) =false:=by simp;omega
   have hdc:L<=dc:=by rw[hL.out];exact H4.out
   have hL47:L<=140737488355328:=by rw[hL.out];exact H6.out
   have k1:¬dc=o:=by omega
   have k2:o<=L:=by omega
   have k2': (o:Int)<=L:=by omega
   obtain⟨b,off,rfl,hb⟩:=H3.out.Bu.plain (by rw[<- hL.out];omega)
   have A3:Hid (aT w b off zs) :=by
    rcases H3.out with h|⟨b',off',h1,_,h3⟩
    ·have h1:=hL.out;rw[h]at h1;simp at h1;omega
    ·cases h1;exact h3
   obtain⟨C,hC⟩:=named (dN cs r);have hC1:1<=C:=by rw[hC.out];exact jw _ _
   obtain⟨k,hk⟩:=named (jI zs.length cs o r n);have hk':min (min n C) ((L- o:Nat) :Int) =k:=by rw[hk.out];unfold jI;rw[<- hL.out,<- hC.out];omega
   have hkM:k<=L- o:=by omega
   have hk1:1<=k:=by omega
   rw[<- hk.out];have HK:=ad hk';have HKM:=ad hkM;have HK1:=ad hk1;clear hk' hC1 hn;have k4: (o:Int) +k<=9223372036854775807:=by omega
   have k5: (r:Int) +1<=9223372036854775807:=by have:=H10.out.2;omega
   have k6:k<=dc- o:=by omega
   have k6': (k:Int)<= ((dc- o:Nat) :Int) :=by omega
   go_enter Tryz.func102,Tryz.ntmps102;go_wp2;go_quiet (fail);go_wp2;go_quiet (fail);go_wp2_with fail;refine(kp c sa sc cs r _ (show jC (w.drewN _) c sa sc cs r from H2.out)).mono ?_;rintro e w2 ⟨rfl,hn2,ho2⟩;rw[<- hC.out];have N2:=ad hn2;have O2:=ad ((iW c (c+1) w _).trans ho2);clear hn2 ho2 c0 c1 c2 c3 c4 f2 f3;have S2:=ad (HE.out.out O2.out (by have:=H7.out;omega));have c0:=S2.out.get 0 rfl;have c2:=S2.out.get 2 rfl;have c3:=S2.out.get 3 rfl;have f2:=S2.out.frozen 2;have f3:=S2.out.frozen 3;rw[<- hL.out]at c0;clear k6' hkM hk1;go_wp2_with (refine pH rfl _ _ _ _ rfl .i64 .i64 .i64 n C ((L- o:Nat) :Int) k rfl rfl rfl HK.out ?_);have hH8:=H8.out _ rfl;have hH7:=H7.out;have hbc:b≠c:=hH8.2.2.2;have Z0:Hid (eJ .u8 w (some ⟨b,off+o,none⟩) ((zs.drop o).take k)) := .inr ⟨b,off+o,rfl,hb,((A3.out.drop o).take k).1⟩;obtain⟨W,hW⟩:=named ((w2.setCell ⟨s,2,none⟩ (.int .i64 (o+k))).setCell ⟨s,3,none⟩ (.int .i64 (r+1)));rw[<- hW.out]
   have Z2:Hid (eJ .u8 W (some ⟨b,off+o,none⟩) ((zs.drop o).take k)) :=by
    show eJ _ _ _ _;rw[hW.out];exact((Z0.out.out O2.out (fun x hx=>by cases hx;show b<c\/c+1<=b;omega)).set _ (fun x hx=>by cases hx;exact hH8.2.2.1)).set _ (fun x hx=>by cases hx;exact hH8.2.2.1)
   have T2:Hid (ak W s 92 [.slice (some ⟨b,off,none⟩) zs.length dc,.int .i64 E,.int .i64 ((o+k:Nat) :Int),.int .i64 ((r+1:Nat) :Int),.func (.func 42) #[.pointer (some ⟨c,0,none⟩)] #[]]) :=by
    show ak _ _ _ _;rw[hW.out];exact(S2.out.set 2 _).set 3 _
   have U2:Hid (jC W c sa sc cs (r+1)) :=by
    show jC _ _ _ _ _ _;rw[hW.out];obtain⟨q1,q2,q3,q4⟩:=N2.out;exact⟨(q1.sW 2 _ (by omega)).sW 3 _ (by omega),(q2.set _ (fun x hx=> (H9.out x hx).2.2)).set _ (fun x hx=> (H9.out x hx).2.2),q3,q4⟩
   have V2:Hid (BytesIn W (some ⟨b,off,none⟩) zs) :=by
    show BytesIn _ _ _;rw[hW.out];exact((H3.out.out O2.out (fun x hx=>by cases hx;show b<c\/c+1<=b;omega)).set _ (fun x hx=>by cases hx;exact hH8.2.2.1)).set _ (fun x hx=>by cases hx;exact hH8.2.2.1)
   have OW:Hid (Out lo hi w W) :=by
    show Out _ _ _ _;rw[hW.out];exact((O2.out.wide (by omega) (by omega)).setCell (by show lo<=s;omega) (by show s<hi;omega) _).setCell (by show lo<=s;omega) (by show s<hi;omega) _
   have hlen: ((zs.drop o).take k).length=k:=by have:=hL.out;have:=HKM.out;rw[List.length_take,List.length_drop];omega
   have LEN:=ad hlen;clear hlen hH8 hH7 hbc;refine(lO (some ⟨b,off+o,none⟩) k (dc- o) _ W Z2.out LEN.out (by have:=HKM.out;omega)).mono ?_;rintro e w5 ⟨v5,rfl,o5,b5⟩;have O5:=ad o5;have B5:=ad b5;clear o5 b5 c0 c2 c3 f2 f3;go_wp2;go_ret2;have hsz:=OW.out.size;have o5:=eg O5.out hsz;refine⟨_,rfl,?_,⟨c,some ⟨b,off,none⟩,dc,sa,sc,T2.out.below B5.out T2.out.lt,?_,V2.out.below B5.out,H4.out,H5.out,H6.out,?_,H8.out,H9.out,?_,?_⟩,OW.out.trans (.aq B5.out ah)⟩
   ·rw[LEN.out];exact o5
   ·obtain⟨q1,q2,q3,q4⟩:=U2.out;exact⟨q1.below B5.out q1.lt,q2.below B5.out,q3,q4⟩
   ·have:=H7.out;have:=B5.out.size;omega
   ·have:=HKM.out;have:=hL.out;omega
   ·have:=H10.out.2;have:=HK1.out;omega
end Go.Proofs.YtcjagakckffkiaaGreatDoor
namespace Go.Proofs.YtcjagakckffkiaaGreatDoor
open Go.RowKit
theorem Src.size {w:World}{lo hi s:Nat}{zs cs:List Int}{E:Int}{o r:Nat}(h:Src w lo hi s zs E cs o r) :hi<=w.heap.size/\lo<=s/\s<hi:=by
 obtain⟨_,_,_,_,_,_,_,_,_,_,_,h7,_⟩:=h;exact⟨h7.2.2.2.2.2,h7.1,h7.2.1⟩
theorem wk {L:Nat}{cs:List Int}{o r:Nat}{n:Int}(hn:1<=n)(ho:o<L) :1<=jI L cs o r n/\o+jI L cs o r n<=L/\ (jI L cs o r n:Int)<=n:=by
 have:=jw cs r;unfold jI;omega
theorem CI {lo hi s:Nat}{zs cs:List Int}{E:Int}{o r:Nat}(n:Int)(w:World)(h:Src w lo hi s zs E cs o r)(hn:1<=n)(ho:o=zs.length) :
 Calls Tryz.prog 102 #[.pointer (some ⟨s,0,none⟩),.int .i64 n] w fun e w'=>∃a c,e= .returned (.tuple #[.slice a 0 c,.int .i64 E])/\
  w'.ownsRow w.heap.size 5 1 (.slice a 0 c) 0 (([] :List Int).map (.int .u8))/\Src w' lo hi s zs E cs o r/\Out lo hi w w':=by
 refine(vN n w h).mono ?_;rintro e w' ⟨v,rfl,h1,h2,h3⟩;have e1:pG zs cs o r n= [] :=if_pos (.inr ho);have e2:ly zs E o n=E:=by unfold ly;rw[if_neg (by omega),if_pos ho]
 have e3:qW zs cs o r n=o:=if_pos (.inr ho);have e4:tv zs o r n=r:=if_pos (.inr ho);rw[e1]at h1;rw[e3,e4]at h2;rw[e2];obtain⟨b,c,rfl,_⟩:=bl (zs:= []) h1;exact⟨b,c,rfl,h1,h2,h3⟩
theorem JA {lo hi s:Nat}{zs cs:List Int}{E:Int}{o r:Nat}(n:Int)(w:World)(h:Src w lo hi s zs E cs o r)(hn:1<=n)(ho:o<zs.length)(k:Nat)(hk:jI zs.length cs o r n=k) :
 Calls Tryz.prog 102 #[.pointer (some ⟨s,0,none⟩),.int .i64 n] w fun e w'=>∃g c,e= .returned (.tuple #[.slice (some ⟨g,0,none⟩) k c,.int .i64 0])/\
  w'.ownsRow w.heap.size 5 1 (.slice (some ⟨g,0,none⟩) k c) k (((zs.drop o).take k).map (.int .u8))/\Src w' lo hi s zs E cs (o+k) (r+1)/\Out lo hi w w':=by
 refine(vN n w h).mono ?_;rintro e w' ⟨v,rfl,h1,h2,h3⟩;have hb:=wk (cs:=cs) (r:=r) hn ho;rw[hk]at hb;have e1:pG zs cs o r n= (zs.drop o).take k:=by unfold pG;rw[if_neg (by omega),hk]
 have e2:ly zs E o n=0:=by unfold ly;rw[if_neg (by omega),if_neg (by omega)]
 have e3:qW zs cs o r n=o+k:=by unfold qW;rw[if_neg (by omega),hk]
 have e4:tv zs o r n=r+1:=if_neg (by omega);have hl: ((zs.drop o).take k).length=k:=by rw[List.length_take,List.length_drop];omega
 rw[e1,hl]at h1;rw[e3,e4]at h2;rw[e2];obtain⟨g,c,rfl,_⟩:=sP h1 (by omega);exact⟨g,c,rfl,h1,h2,h3⟩
theorem Lj (F:Int)(n:Nat) :oV F n=11\/oV F n=4:=by unfold oV;split<;>simp
theorem Src.bytes {w:World}{lo hi s:Nat}{zs cs:List Int}{E:Int}{o r:Nat}(h:Src w lo hi s zs E cs o r) :Bytes zs/\o<=zs.length/\r<=o:=by
 obtain⟨_,_,_,_,_,_,_,h3,_,_,_,_,_,_,h10⟩:=h;exact⟨h3.bytes,h10⟩
end Go.Proofs.YtcjagakckffkiaaGreatDoor
namespace Go.Proofs.YtcjagakckffkiaaGreatDoor
open Go.RowKit
structure aA (S:Nat->Prop) (w w':World) :Prop where
 os:w'.os=w.os
 tape:w'.tape=w.tape
 output:w'.output=w.output
 size:w.heap.size<=w'.heap.size
 block:∀k,k<w.heap.size->¬S k->w'.heap[k]? =w.heap[k]?
theorem aA.refl (S:Nat->Prop)(w:World) :aA S w w:=⟨rfl,rfl,rfl,ah,fun _ _ _=>rfl⟩
theorem aA.trans {S:Nat->Prop}{a b c:World}(h:aA S a b)(k:aA S b c) :aA S a c:=
 ⟨k.os.trans h.os,k.tape.trans h.tape,k.output.trans h.output,Nat.le_trans h.size k.size,fun i hi hj=> (k.block i (Nat.lt_of_lt_of_le hi h.size) hj).trans (h.block i hi hj)⟩
theorem aA.mono {S T:Nat->Prop}{w w':World}(h:aA S w w')(hST:∀k,k<w.heap.size->S k->T k) :aA T w w':=⟨h.os,h.tape,h.output,h.size,fun k hk hj=>h.block k hk fun hs=>hj (hST k hk hs)⟩
theorem aA.aq {S:Nat->Prop}{B:Nat}{w w':World}(h:Below B w w')(hB:w.heap.size<=B) :aA S w w':=⟨h.os,h.tape,h.output,h.size,fun k hk _=>h.block k (Nat.lt_of_lt_of_le hk hB)⟩
theorem aA.below {S:Nat->Prop}{B:Nat}{w w':World}(h:aA S w w')(hS:∀k,S k->B<=k)(hw:B<=w.heap.size) :Below B w w':=⟨h.os,h.tape,h.output,h.size,fun k hk=>h.block k (Nat.lt_of_lt_of_le hk hw) fun hs=>by have:=hS k hs;omega⟩
theorem aA.setCell {S:Nat->Prop}{a w:World}(h:aA S a w){p:Addr}(hp:S p.block\/a.heap.size<=p.block)(v:Value) :aA S a (w.setCell p v) :=
 ⟨h.os,h.tape,h.output,by simpa [World.setCell]using h.size,fun k hk hj=> (Below.heap_setCell w p v k (by rintro rfl;rcases hp with hp|hp;exact hj hp;omega)).trans (h.block k hk hj)⟩
theorem ak.only {S:Nat->Prop}{w w':World}{g:Nat}{T:TypeId}{vs:List Value}(h:ak w g T vs)(ho:aA S w w')(hg:¬S g) :ak w' g T vs:= (ho.block g h.lt hg).trans h
theorem eJ.only {S:Nat->Prop}{k:IntKind}{w w':World}{a:Option Addr}{zs:List Int}(h:eJ k w a zs)(ho:aA S w w')(e:∀x,a=some x->¬S x.block) :eJ k w' a zs:=h.block ho.size fun x hx hl=>ho.block _ hl (e x hx)
def Grow (S:Nat->Prop)(w w':World) :Nat->Prop:=fun k=>S k\/ (w.heap.size<=k/\k<w'.heap.size)
end Go.Proofs.YtcjagakckffkiaaGreatDoor
