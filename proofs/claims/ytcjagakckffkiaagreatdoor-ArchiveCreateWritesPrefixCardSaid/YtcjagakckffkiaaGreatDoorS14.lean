import Derived.Test.YtcjagakckffkiaaGreatDoorS7
set_option maxHeartbeats 16000000
set_option maxRecDepth 100000
namespace Go.Proofs.YtcjagakckffkiaaGreatDoor
namespace fQ
open Go.RowKit Go.Proofs.YtcjagakckffkiaaGreatDoor.Fit Pxr Pnm
theorem Ft:fV Tryz.prog 130 6:=⟨⟨_,Tryz.underlying130⟩,by kernel_rfl⟩
theorem Hw: (Tryz.prog.info? 130).map (·.zero) =some (some (.agg (Ust.bX).toArray)) :=by kernel_rfl
theorem DX (T:Int)(a b c:ByteArray)(m z:Int) :∀v∈Ust.bu T a b c m z,v.oneCell'=true:=by simp[Value.oneCell']
theorem Af (z:Int)(w:World) :Calls Tryz.prog 151 #[.int .i64 z] w fun e w'=>e= .returned (.agg (Ust.bu 120 nY emp emp 0 z).toArray)/\Below w.heap.size w w':=by
 have HO:=aa Ft;have HZ:=aa Hw;go_enter Tryz.func151,Tryz.ntmps151;go_wp2_with (first| (refine ag rfl 130 rfl Ust.bX HZ.out ?_;intro w1 h1 b1;have G1:=aa h1;have B1:=aa b1;clear h1 b1) | (refine ae rfl 130 _ _ rfl w.heap.size rfl (Ust.bu 120 nY emp emp 0 z) Ust.bX rfl 130 G1.out HO.out.2 rfl (DX _ _ _ _ _ _) ?_;intro w2 g2 t2;have G2:=aa g2;have T2:=aa t2;clear g2 t2));exact bodyPost_ret (eQ Tryz.results151 HO.out _ w.heap.size rfl _ (Ust.bu 120 nY emp emp 0 z) G2.out rfl) rfl ⟨rfl,B1.out.trans (T2.out.below aj)⟩
end fQ
section
open Go.RowKit
theorem sq (z:Int)(hz:z<=9223372036854775807)(w:World) :Calls Tryz.prog 58 #[.int .i64 z] w fun e w'=>e= .returned (.int .i64 (fK z.toNat:Nat))/\w=w':=by
 by_cases h0:z<=0
 ·have e:fK z.toNat=0:=by rw[show z.toNat=0 by omega];rfl
  rw[e];go_enter Tryz.func58,Tryz.ntmps58;go_wp2;go_ret;exact⟨rfl,rfl⟩
 ·obtain⟨s,rfl⟩:∃s:Nat,z=s+1:=⟨(z- 1).toNat,by omega⟩
  have e: ((fK ((s:Int) +1).toNat:Nat) :Int) = (s:Int) /512+1:=by
   rw[show((s:Int) +1).toNat=s+1 by omega];unfold fK;omega
  rw[e];have h1:¬(s:Int) +1<=0:=by omega
  have h2: (s:Int) +1- 1=s:=by omega
  have h3: (s:Int)<=9223372036854775806:=by omega
  go_enter Tryz.func58,Tryz.ntmps58;go_wp2;go_ret;exact⟨rfl,rfl⟩
theorem kf (a:Option Addr)(n cap:Nat)(zs:List Int)(w:World)(hb:eH .u8 w a zs)(hl:zs.length=n)(hn:n<=140737488355328) :
 Calls Tryz.prog 41 #[.slice a n cap] w fun e w'=>∃v,e= .returned v/\w'.ownsRow w.heap.size 5 1 v n (zs.map (.int .u8))/\Below w.heap.size w w':=by
 have HB:=aa hb;have HL:=aa hl;have HN:=aa hn;have HE:=aa Ct;have he: (Tryz.prog.info? 5).map (·.size) =some 1:=by obtain⟨i,h1,_,h2,_⟩:=Ct;simp[h1,h2]
 have HE1:=aa he;have he:∀w:World,(binOp .eql 25 (.slice none n cap) (.slice none 0 0)).run Tryz.prog w= .ok (.bool true) w:=fun _=>rfl;have he':∀(x:Addr) (w:World),(binOp .eql 25 (.slice (some x) n cap) (.slice none 0 0)).run Tryz.prog w= .ok (.bool false) w:=fun _ _=>rfl
 cases a with
 |none=>
  have h0:zs= [] :=by
   rcases HB.out with h|⟨_,_,h,_⟩
   ·exact h
   ·cases h
  subst h0;obtain rfl:n=0:=HL.out.symm;go_enter Tryz.func41,Tryz.ntmps41;go_wp2;go_ret;exact⟨_,rfl,⟨rfl,.inl ⟨rfl,rfl⟩⟩,au⟩
 |some x=>
  go_enter Tryz.func41,Tryz.ntmps41;go_wp2_with (first| (refine fo rfl 25 5 .u8 rfl Tryz.underlying25 HE1.out ?_;rintro w1 (O1:Hid _) (B1:Hid _)) | (at_builtin;refine cS rfl _ _ 25 rfl w.heap.size 5 .u8 1 Tryz.underlying25 HE.out (.slice (some ⟨w.heap.size,0,none⟩) 0 0) 0 [] rfl O1.out (some x) n cap zs rfl (HB.out.below B1.out) HL.out (by have:=HN.out;unfold maxLen;omega) (by have:=HN.out;omega) B1.out.size ?_;rintro v2 w2 (O2:Hid _) (B2:Hid _);rw[Nat.zero_add,List.nil_append]at O2));go_ret;exact⟨_,rfl,O2.out,B1.out.trans B2.out⟩
theorem pF (a:Option Addr)(n cap:Nat)(zs:List Int)(w:World)(hb:eH .i64 w a zs)(hl:zs.length=n)(hn:n<=17592186044416) :
 Calls Tryz.prog 40 #[.slice a n cap] w fun e w'=>∃v,e= .returned v/\w'.ownsRow w.heap.size 3 1 v n (zs.map (.int .i64))/\Below w.heap.size w w':=by
 have HB:=aa hb;have HL:=aa hl;have HN:=aa hn;have HE:=aa Dd;have he: (Tryz.prog.info? 3).map (·.size) =some 1:=by obtain⟨i,h1,_,h2,_⟩:=Dd;simp[h1,h2]
 have HE1:=aa he;have he:∀w:World,(binOp .eql 32 (.slice none n cap) (.slice none 0 0)).run Tryz.prog w= .ok (.bool true) w:=fun _=>rfl;have he':∀(x:Addr) (w:World),(binOp .eql 32 (.slice (some x) n cap) (.slice none 0 0)).run Tryz.prog w= .ok (.bool false) w:=fun _ _=>rfl
 cases a with
 |none=>
  have h0:zs= [] :=by
   rcases HB.out with h|⟨_,_,h,_⟩
   ·exact h
   ·cases h
  subst h0;obtain rfl:n=0:=HL.out.symm;go_enter Tryz.func40,Tryz.ntmps40;go_wp2;go_ret;exact⟨_,rfl,⟨rfl,.inl ⟨rfl,rfl⟩⟩,au⟩
 |some x=>
  go_enter Tryz.func40,Tryz.ntmps40;go_wp2_with (first| (refine fo rfl 32 3 .i64 rfl Tryz.underlying32 HE1.out ?_;rintro w1 (O1:Hid _) (B1:Hid _)) | (at_builtin;refine cS rfl _ _ 32 rfl w.heap.size 3 .i64 8 Tryz.underlying32 HE.out (.slice (some ⟨w.heap.size,0,none⟩) 0 0) 0 [] rfl O1.out (some x) n cap zs rfl (HB.out.below B1.out) HL.out (by have:=HN.out;unfold maxLen;omega) (by have:=HN.out;omega) B1.out.size ?_;rintro v2 w2 (O2:Hid _) (B2:Hid _);rw[Nat.zero_add,List.nil_append]at O2));go_ret;exact⟨_,rfl,O2.out,B1.out.trans B2.out⟩
def gR (w:World)(c:Nat)(sa:Option Addr)(sc:Nat)(cs:List Int)(r:Nat) :Prop:=
 an w c 88 [.slice sa cs.length sc,.int .i64 (wv cs r)]/\eH .i64 w sa cs/\cs.length<=140737488355328/\∀x,sa=some x->x.block≠c
theorem jE (c:Nat)(sa:Option Addr)(sc:Nat)(cs:List Int)(r:Nat)(w:World)(h:gR w c sa sc cs r) :
 Calls Tryz.prog 42 #[.pointer (some ⟨c,0,none⟩)] w fun e w'=>e= .returned (.int .i64 (cY cs r))/\gR w' c sa sc cs (r+1)/\Out c (c+1) w w':=by
 have H:=aa h;obtain⟨ho,hi,hm,hx⟩:=h;have HO:=aa ho;by_cases hz:cs.length=0
 ·have HZ:=aa hz;have c0:w.cell? ⟨c,0,none⟩=some (.slice sa 0 sc) :=by have:=ho.get 0 rfl;rwa [hz]at this
  clear ho hi hm hx hz;go_enter Tryz.func42,Tryz.ntmps42;go_wp2;go_ret;refine⟨?_,?_,.refl _ _ _⟩
  ·unfold cY;rw[if_pos HZ.out];rfl
  ·have:=H.out;unfold gR wv at this⊢;rw[if_pos HZ.out]at this⊢;exact this
 ·obtain⟨L,hL⟩:=named cs.length;obtain⟨i,hI⟩:=named (r % cs.length);obtain⟨d,hd⟩:=named (cs.getD i 0);have e1:wv cs r=i:=by unfold wv;rw[if_neg hz,hI.out]
  have hlt:i<cs.length:=by rw[hI.out];exact Nat.mod_lt _ (by omega)
  obtain⟨b,off,rfl,hb⟩:=hi.plain (by omega);have cd:=hi.get i hlt;have cf:=ho.frozen 1;rw[<- hd.out]at cd;have c0:w.cell? ⟨c,0,none⟩=some (.slice (some ⟨b,off,none⟩) L sc) :=by have:=ho.get 0 rfl;rwa [<- hL.out]at this
  have c1:w.cell? ⟨c,1,none⟩=some (.int .i64 i) :=by have:=ho.get 1 rfl;rwa [e1]at this
  have hxb:b≠c:=hx _ rfl;have hm':L<=140737488355328:=by rw[hL.out];exact hm
  have hlt': (i:Int) <L:=by rw[hL.out];omega
  have hL0:¬L=0:=by rw[hL.out];exact hz
  have HX:=aa hx;have HXB:=aa hxb;have HM:=aa hm;have HZ:=aa hz;have E1:=aa e1;have HLT:=aa hlt;have HIN:=aa hi;clear ho hi hm hx hz e1 hlt hxb;go_enter Tryz.func42,Tryz.ntmps42;go_wp2;go_quiet (fail);go_wp2
  have hnext: ((i:Int) +1) % (L:Int) = (wv cs (r+1) :Nat) :=by
   unfold wv;rw[if_neg HZ.out,hL.out,hI.out];rw[show((r % cs.length:Nat) :Int) +1= ((r % cs.length+1:Nat) :Int) by omega,<- Int.natCast_emod,Nat.mod_add_mod]
  have hck:cY cs r=max d 1:=by unfold cY;rw[if_neg HZ.out,hd.out,hI.out]
  have HN:=aa hnext;have HK:=aa hck;clear hnext hck
  have fin:∀nq,gR ((w.drewN nq).setCell ⟨c,1,none⟩ (.int .i64 ((i+1:Int) % L))) c (some ⟨b,off,none⟩) sc cs (r+1)/\Out c (c+1) w ((w.drewN nq).setCell ⟨c,1,none⟩ (.int .i64 ((i+1:Int) % L))) :=by
   intro nq;have ho:an (w.drewN nq) c 88 _:=HO.out;refine⟨⟨?_,(show eH .i64 (w.drewN nq) _ cs from HIN.out).set _ HX.out,HM.out,HX.out⟩,?_⟩
   ·rw[HN.out];exact ho.set 1 _
   ·have:Out c (c+1) w (w.drewN nq) :=⟨rfl,rfl,rfl,aj,fun _ _ _=>rfl⟩;exact this.setCell aj (Nat.lt_succ_self _) _
  have FIN:=aa fin;clear fin;by_cases DX:1<=d
  ·have HKd:Hid (cY cs r=d) :=by show _=_;rw[HK.out];omega
   have hmx:max d 1=d:=by omega
   go_region
   all_goals (go_wp2;go_ret;exact⟨by rw[HKd.out];rfl,FIN.out _⟩)
  ·have HKd:Hid (cY cs r=1) :=by show _=_;rw[HK.out];omega
   have hmx:max d 1=1:=by omega
   go_region
   all_goals (go_wp2;go_ret;exact⟨by rw[HKd.out];rfl,FIN.out _⟩)
def Src (w:World)(lo hi s:Nat)(zs:List Int)(E:Int)(cs:List Int)(o r:Nat) :Prop:=
 ∃c da dc sa sc,an w s 92 [.slice da zs.length dc,.int .i64 E,.int .i64 o,.int .i64 r,.func (.func 42) #[.pointer (some ⟨c,0,none⟩)] #[]]/\
  gR w c sa sc cs r/\BytesIn w da zs/\zs.length<=dc/\dc<=maxLen/\zs.length<=140737488355328/\
  (lo<=s/\s<hi/\lo<=c/\c<hi/\s≠c/\hi<=w.heap.size)/\
  (∀x,da=some x->lo<=x.block/\x.block<hi/\x.block≠s/\x.block≠c)/\ (∀x,sa=some x->lo<=x.block/\x.block<hi/\x.block≠s)/\o<=zs.length/\r<=o
theorem gR.out {w w':World}{c lo hi:Nat}{sa:Option Addr}{sc:Nat}{cs:List Int}{r:Nat}(h:gR w c sa sc cs r)(ho:Out lo hi w w')(hc:c<lo\/hi<=c)(hs:∀x,sa=some x->x.block<lo\/hi<=x.block) :gR w' c sa sc cs r:=by
 obtain⟨h1,h2,h3,h4⟩:=h;exact⟨h1.out ho hc,h2.out ho hs,h3,h4⟩
theorem Src.out {w w':World}{lo hi s lo' hi':Nat}{zs cs:List Int}{E:Int}{o r:Nat}(h:Src w lo hi s zs E cs o r)(ho:Out lo' hi' w w')(hd:hi<=lo'\/hi'<=lo) :Src w' lo hi s zs E cs o r:=by
 obtain⟨c,da,dc,sa,sc,h1,h2,h3,h4,h5,h6,h7,h8,h9,h10⟩:=h;refine⟨c,da,dc,sa,sc,h1.out ho (by omega),h2.out ho (by omega) (fun x hx=>by have:=h9 x hx;omega),h3.out ho (fun x hx=>by have:=h8 x hx;omega),h4,h5,h6,?_,h8,h9,h10⟩;have:=ho.size;omega
theorem Src.below {w w':World}{lo hi s:Nat}{zs cs:List Int}{E:Int}{o r:Nat}(h:Src w lo hi s zs E cs o r)(hb:Below w.heap.size w w') :Src w' lo hi s zs E cs o r:=by
 have hh:hi<=w.heap.size:=by obtain⟨_,_,_,_,_,_,_,_,_,_,_,h7,_⟩:=h;exact h7.2.2.2.2.2
 exact h.out (lo':=hi) (hi':=hi) (.aW hb aj) (.inl aj)
def qJ (F:Int)(n:Nat) :Nat:=if 0<=F/\F<=n then F.toNat else n
def mg (F:Int)(n:Nat) :Int:=if 0<=F/\F<=n then 11 else 4
theorem pM (a:Option Addr)(n cap:Nat)(zs:List Int)(ca:Option Addr)(cl cc:Nat)(cs:List Int)(F:Int)(w:World)(hb:BytesIn w a zs)(hl:zs.length=n)(hnc:n<=cap)(hn:n<=140737488355328)
 (hi:eH .i64 w ca cs)(hcl:cs.length=cl)(hc:cl<=17592186044416) :
 Calls Tryz.prog 17 #[.slice a n cap,.agg #[.slice ca cl cc,.int .i64 F]] w fun e w'=>∃s,e= .returned (.pointer (some ⟨s,0,none⟩))/\
  Src w' w.heap.size w'.heap.size s (zs.take (qJ F n)) (mg F n) cs 0 0/\Below w.heap.size w w':=by
 have HB:=aa hb;have HL:=aa hl;have HI:=aa hi;have HCL:=aa hcl;have HC:=aa hc;have HN:=aa hn;have HNC:=aa hnc;clear hb hl hi hcl hc;have hmf:∀(fn:Fn) (first cap:Array Value) (w:World),(Instr.makeFunc fn first cap).run Tryz.prog w= .ok (.func fn first cap) w:=fun _ _ _ _=>rfl;have hz: (Tryz.prog.info? 88).map (·.zero) =some (some (.agg [Value.slice none 0 0,.int .i64 0].toArray)) :=by kernel_rfl
 have hs: (Tryz.prog.info? 88).map (·.size) =some 2:=by kernel_rfl
 have HZ:=aa hz;have HS:=aa hs;clear hz hs;by_cases hF:0<=F/\F<=n
 ·obtain⟨f,rfl⟩:∃f:Nat,F=f:=⟨F.toNat,by omega⟩;have hfn:f<=n:=by omega
  have hfn': (f:Int)<=n:=by omega
  have hfc:f<=cap:=by omega
  have E1:Hid (qJ f n=f) :=by show _=_;unfold qJ;rw[if_pos hF];rfl
  have E2:Hid (mg f n=11) :=by show _=_;unfold mg;rw[if_pos hF]
  have h0f: (0:Int)<= (f:Int) :=by omega
  clear hF;rw[E1.out,E2.out];go_enter Tryz.func17,Tryz.ntmps17;go_wp2_with (first| (refine af rfl 34 _ rfl [.slice ca cl cc,.int .i64 f] rfl ?_;intro w1 h1 b1;have H1:=aa h1;have B1:=aa b1;have c0:=h1.get 0 rfl;have c1:=h1.get 1 rfl;clear h1 b1));refine(pF ca cl cc cs w1 (HI.out.below B1.out) HCL.out HC.out).mono ?_;rintro e w2 ⟨v2,rfl,o2,b2⟩;obtain⟨sa,sc,rfl,i2,_,_,_,x2⟩:=bj o2;have B2:=aa (B1.out.trans (b2.mono B1.out.size));have I2:=aa i2;have X2:=aa x2;have G1:=aa B1.out.size;have LT1:=aa H1.out.lt;have G2:=aa b2.size;clear o2 b2 i2 x2 c0 c1;go_wp2_with (first| (refine ag rfl 88 rfl [.slice none 0 0,.int .i64 0] HZ.out ?_;intro w3 h3 b3;have H3:=aa h3;have B3:=aa b3;clear h3 b3) | (refine ae rfl 88 _ _ rfl w2.heap.size rfl [.slice sa cl sc,.int .i64 0] [.slice none 0 0,.int .i64 0] rfl 88 H3.out HS.out rfl (by intro v hv;simp at hv;rcases hv with rfl|rfl<;>rfl) ?_;intro w4 h4 t4;have H4:=aa h4;have T4:=aa t4;clear h4 t4));have B4:=aa (B3.out.trans (T4.out.below aj));have Z4:=aa (B2.out.trans (B4.out.mono B2.out.size));have L4:=aa H4.out.lt;refine(kf a f cap (zs.take f) w4 ((HB.out.below Z4.out).take f).vv (by rw[List.length_take,HL.out];omega) (by have:=HN.out;omega)).mono ?_;rintro e w5 ⟨v5,rfl,o5,b5⟩;obtain⟨da,dc,rfl,i5,DM,DN,_,x5⟩:=bj o5;have B5:=aa b5;have I5:=aa i5;have X5:=aa x5;have D1:=aa DM;have D2:=aa DN;clear o5 b5 i5 x5 DM DN;go_wp2_with (first| (refine af rfl 92 _ rfl [.slice da f dc,.int .i64 11,.int .i64 0,.int .i64 0,.func (.func 42) #[.pointer (some ⟨w2.heap.size,0,none⟩)] #[]] rfl ?_;intro w6 h6 b6;have H6:=aa h6;have B6:=aa b6;clear h6 b6));go_ret;have g1:=G1.out;have g2:=G2.out;have l1:=LT1.out;have l4:=L4.out;have g5:=B5.out.size;have l6:=H6.out.lt;have g6:=B6.out.size;have g4:=B4.out.size;have b46:=B5.out.trans (B6.out.mono B5.out.size);have b06:=Z4.out.trans (b46.mono Z4.out.size);have b26:=B4.out.trans (b46.mono B4.out.size);have lz: (zs.take f).length=f:= (by rw[List.length_take,HL.out];omega);refine⟨_,rfl,⟨w2.heap.size,da,dc,sa,sc,by rw[lz];exact H6.out,⟨?_,I2.out.below b26,by rw[HCL.out];have:=HC.out;omega,fun x hx=>by have:=X2.out x hx;omega⟩,(I5.out.bytes ((HB.out.below Z4.out).take f).bytes).below B6.out,by rw[lz];exact D1.out,D2.out,by rw[lz];have:=HN.out;omega,?_,fun x hx=>by have:=X5.out x hx;omega,fun x hx=>by have:=X2.out x hx;omega,Nat.zero_le _,aj⟩,b06⟩
  ·have:wv cs 0=0:=by unfold wv;split<;>simp
   rw[this,HCL.out];exact H4.out.below b46 L4.out
  ·omega
 ·have E1:Hid (qJ F n=n) :=by show _=_;unfold qJ;rw[if_neg hF]
  have E2:Hid (mg F n=4) :=by show _=_;unfold mg;rw[if_neg hF]
  have h1:0<=F->¬F<=n:=fun h h'=>hF ⟨h,h'⟩;clear hF;have ez:zs.take n=zs:=List.take_of_length_le (by rw[HL.out];exact aj);rw[E1.out,E2.out,ez];clear ez;by_cases h0:0<=F
  ·have h1:=h1 h0;go_enter Tryz.func17,Tryz.ntmps17;go_wp2_with (first| (refine af rfl 34 _ rfl [.slice ca cl cc,.int .i64 F] rfl ?_;intro w1 h1 b1;have H1:=aa h1;have B1:=aa b1;have c0:=h1.get 0 rfl;have c1:=h1.get 1 rfl;clear h1 b1));refine(pF ca cl cc cs w1 (HI.out.below B1.out) HCL.out HC.out).mono ?_;rintro e w2 ⟨v2,rfl,o2,b2⟩;obtain⟨sa,sc,rfl,i2,_,_,_,x2⟩:=bj o2;have B2:=aa (B1.out.trans (b2.mono B1.out.size));have I2:=aa i2;have X2:=aa x2;have G1:=aa B1.out.size;have LT1:=aa H1.out.lt;have G2:=aa b2.size;clear o2 b2 i2 x2 c0 c1;go_wp2_with (first| (refine ag rfl 88 rfl [.slice none 0 0,.int .i64 0] HZ.out ?_;intro w3 h3 b3;have H3:=aa h3;have B3:=aa b3;clear h3 b3) | (refine ae rfl 88 _ _ rfl w2.heap.size rfl [.slice sa cl sc,.int .i64 0] [.slice none 0 0,.int .i64 0] rfl 88 H3.out HS.out rfl (by intro v hv;simp at hv;rcases hv with rfl|rfl<;>rfl) ?_;intro w4 h4 t4;have H4:=aa h4;have T4:=aa t4;clear h4 t4));have B4:=aa (B3.out.trans (T4.out.below aj));have Z4:=aa (B2.out.trans (B4.out.mono B2.out.size));have L4:=aa H4.out.lt;refine(kf a n cap zs w4 (HB.out.below Z4.out).vv HL.out HN.out).mono ?_;rintro e w5 ⟨v5,rfl,o5,b5⟩;obtain⟨da,dc,rfl,i5,DM,DN,_,x5⟩:=bj o5;have B5:=aa b5;have I5:=aa i5;have X5:=aa x5;have D1:=aa DM;have D2:=aa DN;clear o5 b5 i5 x5 DM DN;go_wp2_with (first| (refine af rfl 92 _ rfl [.slice da n dc,.int .i64 4,.int .i64 0,.int .i64 0,.func (.func 42) #[.pointer (some ⟨w2.heap.size,0,none⟩)] #[]] rfl ?_;intro w6 h6 b6;have H6:=aa h6;have B6:=aa b6;clear h6 b6));go_ret;have g1:=G1.out;have g2:=G2.out;have l1:=LT1.out;have l4:=L4.out;have g5:=B5.out.size;have l6:=H6.out.lt;have g6:=B6.out.size;have g4:=B4.out.size;have b46:=B5.out.trans (B6.out.mono B5.out.size);have b06:=Z4.out.trans (b46.mono Z4.out.size);have b26:=B4.out.trans (b46.mono B4.out.size);have lz:zs.length=n:=HL.out;refine⟨_,rfl,⟨w2.heap.size,da,dc,sa,sc,by rw[lz];exact H6.out,⟨?_,I2.out.below b26,by rw[HCL.out];have:=HC.out;omega,fun x hx=>by have:=X2.out x hx;omega⟩,(I5.out.bytes (HB.out.below Z4.out).bytes).below B6.out,by rw[lz];exact D1.out,D2.out,by rw[lz];have:=HN.out;omega,?_,fun x hx=>by have:=X5.out x hx;omega,fun x hx=>by have:=X2.out x hx;omega,Nat.zero_le _,aj⟩,b06⟩
   ·have:wv cs 0=0:=by unfold wv;split<;>simp
    rw[this,HCL.out];exact H4.out.below b46 L4.out
   ·omega
  ·clear h1;go_enter Tryz.func17,Tryz.ntmps17;go_wp2_with (first| (refine af rfl 34 _ rfl [.slice ca cl cc,.int .i64 F] rfl ?_;intro w1 h1 b1;have H1:=aa h1;have B1:=aa b1;have c0:=h1.get 0 rfl;have c1:=h1.get 1 rfl;clear h1 b1));refine(pF ca cl cc cs w1 (HI.out.below B1.out) HCL.out HC.out).mono ?_;rintro e w2 ⟨v2,rfl,o2,b2⟩;obtain⟨sa,sc,rfl,i2,_,_,_,x2⟩:=bj o2;have B2:=aa (B1.out.trans (b2.mono B1.out.size));have I2:=aa i2;have X2:=aa x2;have G1:=aa B1.out.size;have LT1:=aa H1.out.lt;have G2:=aa b2.size;clear o2 b2 i2 x2 c0 c1;go_wp2_with (first| (refine ag rfl 88 rfl [.slice none 0 0,.int .i64 0] HZ.out ?_;intro w3 h3 b3;have H3:=aa h3;have B3:=aa b3;clear h3 b3) | (refine ae rfl 88 _ _ rfl w2.heap.size rfl [.slice sa cl sc,.int .i64 0] [.slice none 0 0,.int .i64 0] rfl 88 H3.out HS.out rfl (by intro v hv;simp at hv;rcases hv with rfl|rfl<;>rfl) ?_;intro w4 h4 t4;have H4:=aa h4;have T4:=aa t4;clear h4 t4));have B4:=aa (B3.out.trans (T4.out.below aj));have Z4:=aa (B2.out.trans (B4.out.mono B2.out.size));have L4:=aa H4.out.lt;refine(kf a n cap zs w4 (HB.out.below Z4.out).vv HL.out HN.out).mono ?_;rintro e w5 ⟨v5,rfl,o5,b5⟩;obtain⟨da,dc,rfl,i5,DM,DN,_,x5⟩:=bj o5;have B5:=aa b5;have I5:=aa i5;have X5:=aa x5;have D1:=aa DM;have D2:=aa DN;clear o5 b5 i5 x5 DM DN;go_wp2_with (first| (refine af rfl 92 _ rfl [.slice da n dc,.int .i64 4,.int .i64 0,.int .i64 0,.func (.func 42) #[.pointer (some ⟨w2.heap.size,0,none⟩)] #[]] rfl ?_;intro w6 h6 b6;have H6:=aa h6;have B6:=aa b6;clear h6 b6));go_ret;have g1:=G1.out;have g2:=G2.out;have l1:=LT1.out;have l4:=L4.out;have g5:=B5.out.size;have l6:=H6.out.lt;have g6:=B6.out.size;have g4:=B4.out.size;have b46:=B5.out.trans (B6.out.mono B5.out.size);have b06:=Z4.out.trans (b46.mono Z4.out.size);have b26:=B4.out.trans (b46.mono B4.out.size);have lz:zs.length=n:=HL.out;refine⟨_,rfl,⟨w2.heap.size,da,dc,sa,sc,by rw[lz];exact H6.out,⟨?_,I2.out.below b26,by rw[HCL.out];have:=HC.out;omega,fun x hx=>by have:=X2.out x hx;omega⟩,(I5.out.bytes (HB.out.below Z4.out).bytes).below B6.out,by rw[lz];exact D1.out,D2.out,by rw[lz];have:=HN.out;omega,?_,fun x hx=>by have:=X5.out x hx;omega,fun x hx=>by have:=X2.out x hx;omega,Nat.zero_le _,aj⟩,b06⟩
   ·have:wv cs 0=0:=by unfold wv;split<;>simp
    rw[this,HCL.out];exact H4.out.below b46 L4.out
   ·omega
def gN (L:Nat)(cs:List Int)(o r:Nat)(n:Int) :Nat:= (min (min n (cY cs r)) ((L- o:Nat) :Int)).toNat
def kY (zs cs:List Int)(o r:Nat)(n:Int) :List Int:=if n<1\/o=zs.length then []else(zs.drop o).take (gN zs.length cs o r n)
def iG (zs:List Int)(E:Int)(o:Nat)(n:Int) :Int:=if n<1 then 2 else if o=zs.length then E else 0
def np (zs cs:List Int)(o r:Nat)(n:Int) :Nat:=if n<1\/o=zs.length then o else o+gN zs.length cs o r n
def oN (zs:List Int)(o r:Nat)(n:Int) :Nat:=if n<1\/o=zs.length then r else r+1
theorem rH {lo hi s:Nat}{zs cs:List Int}{E:Int}{o r:Nat}(n:Int)(w:World)(h:Src w lo hi s zs E cs o r) :
 Calls Tryz.prog 102 #[.pointer (some ⟨s,0,none⟩),.int .i64 n] w fun e w'=>∃v,e= .returned (.tuple #[v,.int .i64 (iG zs E o n)])/\
  w'.ownsRow w.heap.size 5 1 v (kY zs cs o r n).length ((kY zs cs o r n).map (.int .u8))/\Src w' lo hi s zs E cs (np zs cs o r n) (oN zs o r n)/\Out lo hi w w':=by
 have H:=aa h;obtain⟨c,da,dc,sa,sc,h1,h2,h3,h4,h5,h6,h7,h8,h9,h10⟩:=h;have H1:=aa h1;have H2:=aa h2;have H3:=aa h3;have H4:=aa h4;have H5:=aa h5;have H6:=aa h6;have H7:=aa h7;have H8:=aa h8;have H9:=aa h9;have H10:=aa h10;clear h2 h3 h4 h5 h6 h7 h8 h9 h10;by_cases hn:n<1
 ·have e1:kY zs cs o r n= [] :=if_pos (.inl hn);have e2:iG zs E o n=2:=if_pos hn;have e3:np zs cs o r n=o:=if_pos (.inl hn);have e4:oN zs o r n=r:=if_pos (.inl hn);rw[e1,e2,e3,e4];clear e1 e2 e3 e4 h1;go_enter Tryz.func102,Tryz.ntmps102;go_wp2;go_ret2;exact⟨_,rfl,jI _ _ _ _,H.out,.refl _ _ _⟩
 ·have hn': (1:Int)<=n:=by omega
  have hn0:¬n<1:=hn;have c0:=h1.get 0 rfl;have c1:=h1.get 1 rfl;have c2:=h1.get 2 rfl;have c3:=h1.get 3 rfl;have c4:=h1.get 4 rfl;have f2:=h1.frozen 2;have f3:=h1.frozen 3;obtain⟨L,hL⟩:=named zs.length;rw[<- hL.out]at c0;by_cases ho:o=zs.length
  ·have e1:kY zs cs o r n= [] :=if_pos (.inr ho);have e2:iG zs E o n=E:=by unfold iG;rw[if_neg hn,if_pos ho]
   have e3:np zs cs o r n=o:=if_pos (.inr ho);have e4:oN zs o r n=r:=if_pos (.inr ho);rw[e1,e2,e3,e4];obtain rfl:o=L:=ho.trans hL.out.symm;clear e1 e2 e3 e4 h1 ho hn;go_enter Tryz.func102,Tryz.ntmps102;go_wp2;go_quiet (fail);go_wp2;go_quiet (fail);go_wp2;go_ret2;exact⟨_,rfl,jI _ _ _ _,H.out.out ((gi lo lo w _).trans (gi _ _ _ _)) (.inr aj),(gi _ _ w _).trans (gi _ _ _ _)⟩
  ·have e1:kY zs cs o r n= (zs.drop o).take (gN zs.length cs o r n) :=if_neg (by omega);have e2:iG zs E o n=0:=by unfold iG;rw[if_neg hn,if_neg ho]
   have e3:np zs cs o r n=o+gN zs.length cs o r n:=if_neg (by omega);have e4:oN zs o r n=r+1:=if_neg (by omega);rw[e1,e2,e3,e4];have HE:=aa h1;clear e1 e2 e3 e4 h1;have hoL:o<L:=by rw[hL.out];have:= (H10.out).1;omega
   have hne: ((o:Int) ==L) =false:=by simp;omega
   have hdc:L<=dc:=by rw[hL.out];exact H4.out
   have hL47:L<=140737488355328:=by rw[hL.out];exact H6.out
   have k1:¬dc=o:=by omega
   have k2:o<=L:=by omega
   have k2': (o:Int)<=L:=by omega
   obtain⟨b,off,rfl,hb⟩:=H3.out.vv.plain (by rw[<- hL.out];omega)
   have A3:Hid (aO w b off zs) :=by
    rcases H3.out with h|⟨b',off',h1,_,h3⟩
    ·have h1:=hL.out;rw[h]at h1;simp at h1;omega
    ·cases h1;exact h3
   obtain⟨C,hC⟩:=named (cY cs r);have hC1:1<=C:=by rw[hC.out];exact gz _ _
   obtain⟨k,hk⟩:=named (gN zs.length cs o r n);have hk':min (min n C) ((L- o:Nat) :Int) =k:=by rw[hk.out];unfold gN;rw[<- hL.out,<- hC.out];omega
   have hkM:k<=L- o:=by omega
   have hk1:1<=k:=by omega
   rw[<- hk.out];have HK:=aa hk';have HKM:=aa hkM;have HK1:=aa hk1;clear hk' hC1 hn;have k4: (o:Int) +k<=9223372036854775807:=by omega
   have k5: (r:Int) +1<=9223372036854775807:=by have:=H10.out.2;omega
   have k6:k<=dc- o:=by omega
   have k6': (k:Int)<= ((dc- o:Nat) :Int) :=by omega
   go_enter Tryz.func102,Tryz.ntmps102;go_wp2;go_quiet (fail);go_wp2;go_quiet (fail);go_wp2_with fail;refine(jE c sa sc cs r _ (show gR (w.drewN _) c sa sc cs r from H2.out)).mono ?_;rintro e w2 ⟨rfl,hn2,ho2⟩;rw[<- hC.out];have N2:=aa hn2;have O2:=aa ((gi c (c+1) w _).trans ho2);clear hn2 ho2 c0 c1 c2 c3 c4 f2 f3;have S2:=aa (HE.out.out O2.out (by have:=H7.out;omega));have c0:=S2.out.get 0 rfl;have c2:=S2.out.get 2 rfl;have c3:=S2.out.get 3 rfl;have f2:=S2.out.frozen 2;have f3:=S2.out.frozen 3;rw[<- hL.out]at c0;clear k6' hkM hk1;go_wp2_with (refine lu rfl _ _ _ _ rfl .i64 .i64 .i64 n C ((L- o:Nat) :Int) k rfl rfl rfl HK.out ?_);have hH8:=H8.out _ rfl;have hH7:=H7.out;have hbc:b≠c:=hH8.2.2.2;have Z0:Hid (eH .u8 w (some ⟨b,off+o,none⟩) ((zs.drop o).take k)) := .inr ⟨b,off+o,rfl,hb,((A3.out.drop o).take k).1⟩;obtain⟨W,hW⟩:=named ((w2.setCell ⟨s,2,none⟩ (.int .i64 (o+k))).setCell ⟨s,3,none⟩ (.int .i64 (r+1)));rw[<- hW.out]
   have Z2:Hid (eH .u8 W (some ⟨b,off+o,none⟩) ((zs.drop o).take k)) :=by
    show eH _ _ _ _;rw[hW.out];exact((Z0.out.out O2.out (fun x hx=>by cases hx;show b<c\/c+1<=b;omega)).set _ (fun x hx=>by cases hx;exact hH8.2.2.1)).set _ (fun x hx=>by cases hx;exact hH8.2.2.1)
   have T2:Hid (an W s 92 [.slice (some ⟨b,off,none⟩) zs.length dc,.int .i64 E,.int .i64 ((o+k:Nat) :Int),.int .i64 ((r+1:Nat) :Int),.func (.func 42) #[.pointer (some ⟨c,0,none⟩)] #[]]) :=by
    show an _ _ _ _;rw[hW.out];exact(S2.out.set 2 _).set 3 _
   have U2:Hid (gR W c sa sc cs (r+1)) :=by
    show gR _ _ _ _ _ _;rw[hW.out];obtain⟨q1,q2,q3,q4⟩:=N2.out;exact⟨(q1.oS 2 _ (by omega)).oS 3 _ (by omega),(q2.set _ (fun x hx=> (H9.out x hx).2.2)).set _ (fun x hx=> (H9.out x hx).2.2),q3,q4⟩
   have V2:Hid (BytesIn W (some ⟨b,off,none⟩) zs) :=by
    show BytesIn _ _ _;rw[hW.out];exact((H3.out.out O2.out (fun x hx=>by cases hx;show b<c\/c+1<=b;omega)).set _ (fun x hx=>by cases hx;exact hH8.2.2.1)).set _ (fun x hx=>by cases hx;exact hH8.2.2.1)
   have OW:Hid (Out lo hi w W) :=by
    show Out _ _ _ _;rw[hW.out];exact((O2.out.wide (by omega) (by omega)).setCell (by show lo<=s;omega) (by show s<hi;omega) _).setCell (by show lo<=s;omega) (by show s<hi;omega) _
   have hlen: ((zs.drop o).take k).length=k:=by have:=hL.out;have:=HKM.out;rw[List.length_take,List.length_drop];omega
   have LEN:=aa hlen;clear hlen hH8 hH7 hbc;refine(kf (some ⟨b,off+o,none⟩) k (dc- o) _ W Z2.out LEN.out (by have:=HKM.out;omega)).mono ?_;rintro e w5 ⟨v5,rfl,o5,b5⟩;have O5:=aa o5;have B5:=aa b5;clear o5 b5 c0 c2 c3 f2 f3;go_wp2;go_ret2;have hsz:=OW.out.size;have o5:=gn O5.out hsz;refine⟨_,rfl,?_,⟨c,some ⟨b,off,none⟩,dc,sa,sc,T2.out.below B5.out T2.out.lt,?_,V2.out.below B5.out,H4.out,H5.out,H6.out,?_,H8.out,H9.out,?_,?_⟩,OW.out.trans (.aW B5.out aj)⟩
   ·rw[LEN.out];exact o5
   ·obtain⟨q1,q2,q3,q4⟩:=U2.out;exact⟨q1.below B5.out q1.lt,q2.below B5.out,q3,q4⟩
   ·have:=H7.out;have:=B5.out.size;omega
   ·have:=HKM.out;have:=hL.out;omega
   ·have:=H10.out.2;have:=HK1.out;omega
theorem Src.size {w:World}{lo hi s:Nat}{zs cs:List Int}{E:Int}{o r:Nat}(h:Src w lo hi s zs E cs o r) :hi<=w.heap.size/\lo<=s/\s<hi:=by
 obtain⟨_,_,_,_,_,_,_,_,_,_,_,h7,_⟩:=h;exact⟨h7.2.2.2.2.2,h7.1,h7.2.1⟩
theorem rG {L:Nat}{cs:List Int}{o r:Nat}{n:Int}(hn:1<=n)(ho:o<L) :1<=gN L cs o r n/\o+gN L cs o r n<=L/\ (gN L cs o r n:Int)<=n:=by
 have:=gz cs r;unfold gN;omega
theorem vK {lo hi s:Nat}{zs cs:List Int}{E:Int}{o r:Nat}(n:Int)(w:World)(h:Src w lo hi s zs E cs o r)(hn:1<=n)(ho:o=zs.length) :
 Calls Tryz.prog 102 #[.pointer (some ⟨s,0,none⟩),.int .i64 n] w fun e w'=>∃a c,e= .returned (.tuple #[.slice a 0 c,.int .i64 E])/\
  w'.ownsRow w.heap.size 5 1 (.slice a 0 c) 0 (([] :List Int).map (.int .u8))/\Src w' lo hi s zs E cs o r/\Out lo hi w w':=by
 refine(rH n w h).mono ?_;rintro e w' ⟨v,rfl,h1,h2,h3⟩;have e1:kY zs cs o r n= [] :=if_pos (.inr ho);have e2:iG zs E o n=E:=by unfold iG;rw[if_neg (by omega),if_pos ho]
 have e3:np zs cs o r n=o:=if_pos (.inr ho);have e4:oN zs o r n=r:=if_pos (.inr ho);rw[e1]at h1;rw[e3,e4]at h2;rw[e2];obtain⟨b,c,rfl,_⟩:=bj (zs:= []) h1;exact⟨b,c,rfl,h1,h2,h3⟩
theorem Bm {lo hi s:Nat}{zs cs:List Int}{E:Int}{o r:Nat}(n:Int)(w:World)(h:Src w lo hi s zs E cs o r)(hn:1<=n)(ho:o<zs.length)(k:Nat)(hk:gN zs.length cs o r n=k) :
 Calls Tryz.prog 102 #[.pointer (some ⟨s,0,none⟩),.int .i64 n] w fun e w'=>∃g c,e= .returned (.tuple #[.slice (some ⟨g,0,none⟩) k c,.int .i64 0])/\
  w'.ownsRow w.heap.size 5 1 (.slice (some ⟨g,0,none⟩) k c) k (((zs.drop o).take k).map (.int .u8))/\Src w' lo hi s zs E cs (o+k) (r+1)/\Out lo hi w w':=by
 refine(rH n w h).mono ?_;rintro e w' ⟨v,rfl,h1,h2,h3⟩;have hb:=rG (cs:=cs) (r:=r) hn ho;rw[hk]at hb;have e1:kY zs cs o r n= (zs.drop o).take k:=by unfold kY;rw[if_neg (by omega),hk]
 have e2:iG zs E o n=0:=by unfold iG;rw[if_neg (by omega),if_neg (by omega)]
 have e3:np zs cs o r n=o+k:=by unfold np;rw[if_neg (by omega),hk]
 have e4:oN zs o r n=r+1:=if_neg (by omega);have hl: ((zs.drop o).take k).length=k:=by rw[List.length_take,List.length_drop];omega
 rw[e1,hl]at h1;rw[e3,e4]at h2;rw[e2];obtain⟨g,c,rfl,_⟩:=vB h1 (by omega);exact⟨g,c,rfl,h1,h2,h3⟩
theorem Ae (F:Int)(n:Nat) :mg F n=11\/mg F n=4:=by unfold mg;split<;>simp
theorem Src.bytes {w:World}{lo hi s:Nat}{zs cs:List Int}{E:Int}{o r:Nat}(h:Src w lo hi s zs E cs o r) :Bytes zs/\o<=zs.length/\r<=o:=by
 obtain⟨_,_,_,_,_,_,_,h3,_,_,_,_,_,_,h10⟩:=h;exact⟨h3.bytes,h10⟩
end
end Go.Proofs.YtcjagakckffkiaaGreatDoor
