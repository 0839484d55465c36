import Derived.Test.YtcjagakckffkiaaGreatDoorS34
set_option maxHeartbeats 16000000
set_option maxRecDepth 100000
namespace Go.Proofs.YtcjagakckffkiaaGreatDoor
namespace Reb
open Go.RowKit Go.MapKept Go.Proofs.YtcjagakckffkiaaGreatDoor.Fit Pnm Tre Flt
theorem nR.gd {w:World}{S:Nat->Prop}{g:Nat}{A:List Mb}(h:nR w S g A) :Gd A:=by
 obtain⟨_,_,_,_,_,_,_,_,_,h,_⟩:=h;exact h.sM
structure Rf (w:World) (S:Nat->Prop) (g:Nat) (A:List Mb) (a:Option Addr) (cap:Nat) (rs:List dh) :Prop where
 b:Gs w g a A.length cap rs
 m:wz rs=A
 g:¬S g
 a:rs= []\/∀x,a=some x->¬S x.block
 y:∀y∈rs,y.n.d= []\/∀x,y.a=some x->¬S x.block
def Fi (w:World)(S:Nat->Prop)(g:Nat)(A:List Mb) :Prop:=∃a cap rs,Rf w S g A a cap rs
theorem Fi.off {w:World}{S:Nat->Prop}{g:Nat}{A:List Mb}(h:Fi w S g A) :¬S g:=by
 obtain⟨a,cap,rs,h1,h2,h3,h4,h5⟩:=h;exact h3
end Reb
namespace Arc
open Go.Lib Go.RowKit Go.Proofs.YtcjagakckffkiaaGreatDoor.Fit Pxr Pnm Tre Flt fQ Reb
def uO (R:RR)(e:Ending)(w':World) :Prop:=∃a n c zs,e= .returned (.tuple #[.slice a n c,.int .i64 R.p,.int .i64 R.e])/\bA w' a n c zs/\ax zs=R.n
theorem uO.bad {w':World}(p:Nat)(x:Int) :uO ⟨[],p,x⟩ (.returned (.tuple #[.slice none 0 0,.int .i64 p,.int .i64 x])) w':=
 ⟨none,0,0,[],rfl,⟨rfl,aj,Nat.zero_le _,.inl rfl,fun _ h=>by cases h⟩,rfl⟩
def RL (I:List Mb->Nat->Prop)(Z:List Int)(E:Int)(R:RR)(w:World)(lo q g:Nat)(wr:World) :Prop:=
 ∃f A o,DQ wr lo (q+1) q Z E o 0/\Fi wr (fun k=>lo<=k/\k<q+1) g A/\Gd A/\I A o/\Fl Z E (f+1) A o=R/\Z.length<=o+f/\Below lo w wr
theorem Gd.Gx {A:List Mb}(hA:Gd A){i:Nat}{x:Mb}(hx:A[i]? =some x) :zO (A.take i) x.e=0/\dn x.e=0/\ (x.d.length:Int) =x.e.s:=by
 obtain⟨hi,rfl⟩:=List.getElem?_eq_some_iff.mp hx;have h:=hA i hi;rw[gB hi]at h;obtain⟨h1,h2⟩:=lR.mp h;exact⟨h1,(lT.mp h1).1,h2⟩
theorem ku {x:Mb} : (si x).length= (nP x.e).length+ (x.d.length+bV x.d.length) :=by unfold si;rw[List.length_append,List.length_append,aB]
theorem xJ (x:Mb)(h:dn x.e=0) :512<= (si x).length:=by
 have:= (iO h).1;rw[ku];omega
def wD (x:Mb) :Prop:=dn x.e=0/\ (x.d.length:Int) =x.e.s
theorem qy (x:Mb)(A:List Mb) :dJ (x::A) =si x++dJ A:=by unfold dJ;rw[List.flatMap_cons]
theorem Gd.Gy {A:List Mb}(h:Gd A) :∀x∈A,wD x:=fun x hx=>by
 obtain⟨i,hi,rfl⟩:=List.getElem_of_mem hx;obtain⟨-,h1,h2⟩:=Gd.Gx h (List.getElem?_eq_getElem hi);exact⟨h1,h2⟩
end Arc
end Go.Proofs.YtcjagakckffkiaaGreatDoor
namespace Go.Proofs.YtcjagakckffkiaaGreatDoor
open Go.RowKit
theorem iZ {P:Program}{w:World}{ops:Array Oper}{rest:List Oper}{o:Oper}{a:Act}{Q:Exit->Act->World->Prop}(hgd:o.guard=none)(s x:Operand)(t:TypeId)
 (ho:o.op= .call {callee:= .builtin .append,args:= #[s,x],argTypes:= #[t,t]})
 (e:TypeId)(i0:TypeInfo)(hT:P.underlying t=some (.slice e))(hI:Hid (P.info? e=some i0/\i0.zero=some (.int .u8 0)/\i0.size=1/\i0.bytes=1))
 (g n:Nat)(zs:List Int)(hs:a.eval s= .slice (some ⟨g,0,none⟩) n n)(hz:aO w g 0 zs)(hn:zs.length=n)
 (b:Option Addr)(m c:Nat)(ys:List Int)(hx:a.eval x= .slice b m c)(hy:BytesIn w b ys)(hl:ys.length=m)(hm:0<m)(h47:n+m<=140737488355328)
 (K:∀v' w',w'.ownsRow w.heap.size e 1 v' (n+m) ((zs++ys).map (.int .u8))->Below w.heap.size w w'->wpList P ops Q rest (a.put o.dst v') w') :wpList P ops Q (o::rest) a w:=by
 rcases hy with hy|⟨b',off,rfl,_,hy⟩
 ·rw[hy]at hl;rw[<- hl]at hm;cases hm
 obtain⟨hi,hz0,hsz,hby⟩:=hI.out
 have hr:=run_append_grow (P:=P) w t o.type e i0 (.int .u8 0) hT hi hz0 ⟨g,0,none⟩ n n (zs.map (Value.int .u8)) (by rw[List.length_map,hn,hsz,Nat.mul_one]) hz.news ⟨b',off,none⟩ m c (ys.map (Value.int .u8)) (by rw[List.length_map,hl,hsz,Nat.mul_one]) hy.news (by omega) (by omega)
  (growslice_fits (by omega) (by rw[hby];omega))
 have hge:=grownCap_ge w (n+m) n e;have hcm:grownCap w (n+m) n e<=maxLen:=grownCap_le_maxLen w (n+m) n e (by unfold maxLen;omega);have hlen: ((zs.map (Value.int .u8)) ++ (ys.map (Value.int .u8))).length= (n+m) *1:=by rw[List.length_append,List.length_map,List.length_map];omega
 refine wpList_plain hgd fun K' hK=>?_;unfold Oper.wp;simp[execOp,ho,resolve,invoke,builtin,hs,hx,hr,Result.andThen];refine hK _ _ (K _ _ ⟨by rw[List.map_append];exact hlen,.inr ⟨w.heap.size,_,_,rfl,aj,heap_alloc_new w.drew _,hge,hcm,?_,?_⟩⟩ (au.drew.alloc aj _))
 ·simp only[Array.size_append,List.size_toArray,size_zeroCells,Value.cells];simp[hn,hl];omega
 ·simp only[Array.toList_append,List.append_assoc];rw[<- List.append_assoc,<- hlen,List.map_append];exact List.take_left
end Go.Proofs.YtcjagakckffkiaaGreatDoor
namespace Go.Proofs.YtcjagakckffkiaaGreatDoor.fQ
open Go.RowKit Go.Proofs.YtcjagakckffkiaaGreatDoor.Fit Pxr Pnm
theorem tX {T:Int}{nm pf lk:ByteArray}{md sz:Int}(w:World)(hn:nm.size<=maxLen)(hp:pf.size<=maxLen)(hk:lk.size<=maxLen)(h:Ust.iN T nm pf lk md sz=0) :
 Calls Tryz.prog 100 #[.agg (Ust.bu T nm pf lk md sz).toArray] w fun e w'=>∃b,e= .returned (.tuple #[.slice (some ⟨b,0,none⟩) 512 512,.int .i64 0])/\aO w' b 0 (Ust.cZ T nm pf lk md sz)/\w.heap.size<=b/\b<w'.heap.size/\Below w.heap.size w w':=by
 have hk1:=Ust.eB (Ust.cD.1 h).1
 refine(Ust.xm (Ust.BR T nm pf lk md sz) (Ust.cont T nm pf lk md sz) (.int .u8 T) (.string nm) (.string pf) (.string lk) (.int .i64 md) (.int .i64 sz) w rfl (fun _ _=>rfl) (fun j hj=>Ust.kR h hj) (fun j hj=>Ust.lr h hj)
  (fun w=>by have:=Ust.eh T nm pf lk md sz w hn hp hk hk1;rw[h]at this;exact this) (fun j hj w=>Ust.An T nm pf lk md sz h hj w)).mono ?_
 rintro e w' ⟨b,rfl,h1,h2,h3⟩;rw[Ust.qD h]at h1;exact⟨b,rfl,h1.row,h2,h1.lt,h3⟩
def eO (zs:List Int)(E:Int)(w:World)(e:Ending)(w':World) :Prop:=
 ∃b n c,e= .returned (.tuple #[.slice b n c,.int .i64 E])/\zs.length=n/\n<=c/\c<=maxLen/\BytesIn w' b zs/\ (∀x,b=some x->w.heap.size<=x.block)/\Below w.heap.size w w'
theorem eO.nil {E:Int}{w w':World}(h:Below w.heap.size w w') :eO [] E w (.returned (.tuple #[.slice none 0 0,.int .i64 E])) w':=
 ⟨none,0,0,rfl,rfl,aj,Nat.zero_le _,.inl rfl,fun x hx=> (by cases hx),h⟩
theorem eO.own {zs:List Int}{E:Int}{w w':World}{base n:Nat}{e:TypeId}{v:Value}(h:w'.ownsRow base e 1 v n (zs.map (.int .u8)))(hz:Bytes zs)(hB:w.heap.size<=base)(hb:Below w.heap.size w w') :eO zs E w (.returned (.tuple #[v,.int .i64 E])) w':=by
 obtain⟨b,c,rfl,hi,hc,hm,hl,hx⟩:=bj h;exact⟨b,n,c,rfl,hl,hc,hm,hi.bytes hz,fun x hx'=>Nat.le_trans hB (hx x hx').1,hb⟩
theorem AA (ys:List Int)(D:Nat)(h:ys.length+bV ys.length=D) :lay (ao D) 0 (ys.take D) =iT ys:=by
 have e:ys.take D=ys:=List.take_of_length_le (by omega);rw[e];unfold lay iT ao;rw[List.take_zero,List.nil_append,List.drop_replicate]
 congr 2
 omega
theorem wrap_i64 {n:Int}(h0:0<=n)(h1:n<=1000000000000) :IntKind.i64.wrap n=n:=by
 have hb:IntKind.i64.bits=64:=rfl;have hs:IntKind.i64.signed=true:=rfl;unfold IntKind.wrap;simp only[hb,hs,Bool.true_and];have e: (2:Int) ^64=18446744073709551616:=by decide
 have e': (2:Int) ^ (64- 1) =9223372036854775808:=by decide
 rw[e,e',Int.emod_eq_of_lt h0 (by omega),if_neg (by simp;omega)]
theorem EH {D:Nat}(h:D<=1000000) :IntKind.i64.wrap (D:Int) =D:=by
 exact wrap_i64 (by omega) (by omega)
theorem sA (a:Option Addr)(n c:Nat)(L:List Rec)(w:World)(V:gS w)(hv:∀r∈L,r.2.size<=maxLen)(hn:L.length=n)(hc:n<=c)(hm:c<=maxLen)(hR:cW w a L)(hE:gP [] L=0)(h1:1<= (fJ L).length)(h2: (fJ L).length<=262144) :
 Calls Tryz.prog 101 #[.slice a n c] w fun e w'=>∃v,e= .returned (.tuple #[v,.int .i64 0])/\w'.ownsRow w.heap.size 5 1 v (512+ (iT (fJ L)).length) ((jZ (hX (fJ L).length) ++iT (fJ L)).map (.int .u8))/\Below w.heap.size w w':=by
 have FM:=sJ a n c L w V hv hn hc hm hR;have ef:xr L=fJ L:=by unfold xr;rw[if_pos hE]
 rw[ef,hE]at FM;have HFM:=aa FM;obtain⟨F,hF⟩:=named (fJ L);have FB:Hid (Bytes F) :=by show Bytes _;rw[hF.out];exact pB L
 rw[<- hF.out]at h1 h2 HFM;rw[<- hF.out];obtain⟨m,hmm⟩:=named F.length;rw[<- hmm.out]at h1 h2;obtain⟨k,hk⟩:=named (fK m);have ek:fK (m:Int).toNat=k:=hk.out.symm;obtain⟨D,hD⟩:=named (512*k);have hPD:m+bV m=D:=by rw[hD.out,hk.out];exact ij m
 have hpd:bV m<512:=by unfold bV;omega
 have hD0:0<D:=by omega
 have hDm:D<=300000:=by omega
 have hkD: (k:Int) *512= (D:Int) :=by have:=hD.out;omega
 have hwD:IntKind.i64.wrap (D:Int) =D:=EH (by omega);have PRL:Hid ((iT F).length=D) :=by show _=_;unfold iT;rw[List.length_append,aB,<- hmm.out];exact hPD
 have LP:Hid (lay (ao D) 0 (F.take D) =iT F) :=AA F D (by rw[<- hmm.out];exact hPD);have EA:=aa fun(w':World) =>tX (T:=120) (nm:=nY) (pf:=emp) (lk:=emp) (md:=0) (sz:= (m:Int)) w' (by decide) (by decide) (by decide) (mB (by omega));have HB:Hid (Ust.cZ 120 nY emp emp 0 (m:Int) =jZ (hX m)) :=rfl;have HBL:Hid ((jZ (hX m)).length=512) := (gA (mB (n:=m) (by omega))).2.2.1;obtain⟨X,hX'⟩:=named (jZ (hX m));rw[<- hmm.out,<- hX'.out,PRL.out];have hm8: (m:Int)<=262144:=by omega
 have HD9:Hid (D<=300000) :=hDm;have HD0:Hid (0<D) :=hD0;have hk8: (k:Int)<=1000:=by omega
 have hDi: (D:Int)<=300000:=by omega
 obtain⟨i0,HI⟩:=dx (P:=Tryz.prog) (e:=5) (by kernel_rfl);have HE8:Hid ((Tryz.prog.info? 5).map (·.size) =some 1) :=by show _=_;kernel_rfl
 clear V hv hn hc hm hR hE h1 h2 ef FM hPD hpd hD0 hDm;go_enter Tryz.func101,Tryz.ntmps101;go_wp2_with fail;refine HFM.out.mono ?_;rintro e w1 ⟨b1,m1,c1,rfl,l1,hc1,hm1,i1,bb1⟩;obtain rfl:m1=m:=by rw[<- l1,hmm.out]
 have I1:=aa i1;have B1:=aa bb1;have C1:=aa hc1;clear l1 hc1 hm1 i1 bb1;go_wp2_with fail;refine(Af (m1:Int) w1).mono ?_;rintro e w2 ⟨rfl,b2⟩;have I2:=aa (I1.out.below b2);have B2:=aa (ar B1.out b2);clear b2;go_wp2_with fail;refine(EA.out w2).mono ?_;rintro e w3 ⟨g3,rfl,a3,x3,y3,bb3⟩;rw[HB.out,<- hX'.out]at a3;have A3:=aa a3;have X3:=aa (Nat.le_trans B2.out.size x3);have Y3:=aa y3;have I3:=aa (I2.out.below bb3);have B3:=aa (ar B2.out bb3);clear a3 x3 y3 bb3;go_wp2_with fail;refine(sq (m1:Int) (by omega) w3).mono ?_;rintro e w4 ⟨rfl,rfl⟩;rw[ek];clear ek;go_wp2_with (first| (refine cU rfl _ _ 25 5 rfl Tryz.underlying25 i0 HI D rfl rfl (by have:=HD9.out;omega) ?_;intro w5 h5 b5;have H5:=aa h5;have B5:=aa (ar B3.out b5);have I5:=aa (I3.out.below b5);have A5:=aa (A3.out.below b5 Y3.out);have Z5:=aa b5;clear h5 b5) | (refine gO rfl _ _ 25 25 rfl 5 Tryz.underlying25 HE8.out w3.heap.size 0 D D rfl b1 m1 c1 rfl F I5.out hmm.out.symm 5 (ao D) H5.out (by rw[aB];omega) ?_;rw[LP.out];intro w6 h6 t6;have H6:=aa h6;have A6:Hid (aO w6 g3 0 X) :=A3.out.below (Z5.out.trans (t6.below aj)) Y3.out;have B6:=aa (B5.out.trans (t6.below B3.out.size));clear h6 t6) | (at_builtin;refine iZ rfl _ _ 25 rfl 5 i0 Tryz.underlying25 HI g3 512 X rfl A6.out (by rw[hX'.out];exact HBL.out) (some ⟨w3.heap.size,0,none⟩) D D (iT F) rfl H6.out.bytes PRL.out HD0.out (by have:=HD9.out;omega) ?_;intro v7 w7 h7 b7;have H7:=aa h7;have B7:=aa (ar B6.out b7);clear h7 b7));go_ret2;exact⟨_,rfl,gn H7.out B6.out.size,B7.out⟩
end Go.Proofs.YtcjagakckffkiaaGreatDoor.fQ
namespace Go.Proofs.YtcjagakckffkiaaGreatDoor
namespace fQ
open Go.RowKit Go.Proofs.YtcjagakckffkiaaGreatDoor.Fit Pxr Pnm
theorem tV {e:fM}(h:dn e≠0) :nP e= [] :=by unfold nP;rw[if_pos h]
theorem tW {e:fM}(h:dn e=0)(h0: (jK e).length=0) :nP e=jZ (eZ e) :=by
 unfold nP CQ;rw[if_neg (by simpa using h),if_pos h0,List.nil_append]
theorem qI {e:fM}(h:dn e=0)(h0: (jK e).length≠0) :nP e= (jZ (hX (fJ (jK e)).length) ++iT (fJ (jK e))) ++jZ (eZ e) :=by
 unfold nP CQ;rw[if_neg (by simpa using h),if_neg h0]
theorem yf (k:Int)(p:ByteArray)(m:Int)(t:ByteArray)(s:Int)(w:World)(V:dS w)(hp:p.size<=maxLen)(ht:t.size<=maxLen)(h:dn ⟨k,p,m,t,s⟩≠0) :
 Calls Tryz.prog 57 #[.agg (cB k p m t s).toArray] w (eO [] (dn ⟨k,p,m,t,s⟩) w) :=by
 have HO:=aa Av;have HZ:=aa Fe;have PL:=aa fun w' (hb:Below w.heap.size w w') =>oL ⟨k,p,m,t,s⟩ w' (V.go hb) hp ht;obtain⟨e1,e2⟩:=iA h;unfold nS at PL;rw[e1,e2]at PL;obtain⟨E,hE⟩:=named (dn ⟨k,p,m,t,s⟩);rw[<- hE.out]at PL h;rw[<- hE.out];have n0: (E !=0) =true:=by simp[h]
 clear V hp ht h e1 e2;go_enter Tryz.func57,Tryz.ntmps57;go_wp2_with (first| (refine af rfl 68 _ rfl (cB k p m t s) rfl ?_;intro w1 g1 b1;have E1:=aa g1;have B1:=aa b1;have c0:=E1.out.get 0 rfl;have c1:=E1.out.get 1 rfl;have c2:=E1.out.get 2 rfl;have c3:=E1.out.get 3 rfl;have c4:=E1.out.get 4 rfl;clear g1 b1));refine(PL.out w1 B1.out).mono ?_;rintro e w2 ⟨b,n,c,rfl,hn,hc,hm,hR,b2⟩;have B2:=aa (ar B1.out b2);clear b2 hn hc hm hR c0 c1 c2 c3 c4;go_wp2_with (first| (refine ag rfl 130 rfl Ust.bX HZ.out ?_;intro w4 g4 b4;have R4:=aa g4;have A4:=aa b4;clear g4 b4) | (refine ae rfl 130 _ _ rfl w2.heap.size rfl (Ust.bX) Ust.bX rfl 130 R4.out HO.out.2 rfl (bL _ _ _ _ _ _) ?_;intro w5 g5 t5;have B5:=aa (ar B2.out (A4.out.trans (t5.below aj)));clear g5 t5));go_ret2;exact .nil B5.out
section
variable {k:Int} {p:ByteArray} {m:Int} {t:ByteArray} {s:Int}
theorem Be (w:World)(V:dS w)(hp:p.size<=maxLen)(ht:t.size<=maxLen)(h:dn ⟨k,p,m,t,s⟩=0) :
 Calls Tryz.prog 57 #[.agg (cB k p m t s).toArray] w (eO (nP ⟨k,p,m,t,s⟩) 0 w) :=by
 have HO:=aa Av;have HZ:=aa Fe;have PL:=aa fun w' (hb:Below w.heap.size w w') =>oL ⟨k,p,m,t,s⟩ w' (V.go hb) hp ht;obtain⟨e1,e2⟩:=gE h;unfold nS at PL;rw[e1,e2,h]at PL;have hok:=fw.1 h;obtain⟨z1,z2,z3,z4⟩:=yn hok;have EO:=aa (tW h);have EM:=aa (qI h);have HG:=aa (pU hok);have HVL:=aa (uA hok);have FL:=aa (mu h);have FP:=aa (xu (l:=jK ⟨k,p,m,t,s⟩));have FBY:=aa (mq (jK ⟨k,p,m,t,s⟩));have ENB:=aa (lZ ⟨k,p,m,t,s⟩);have HDL:Hid ((jZ (eZ ⟨k,p,m,t,s⟩)).length=512) := (gA (uz h)).2.2.1;have HDX:Hid (∀n:Nat,n<=262144-> (jZ (hX n)).length=512) :=fun n hn=> (gA (mB (n:=n) (by omega))).2.2.1;have EA:=aa fun(w':World) =>tX w' (by unfold maxLen;omega) (by unfold maxLen;omega) (by unfold maxLen;omega) z4;have HHB:Hid (Ust.cZ (eZ ⟨k,p,m,t,s⟩).T (eZ ⟨k,p,m,t,s⟩).nm (eZ ⟨k,p,m,t,s⟩).pf (eZ ⟨k,p,m,t,s⟩).lk (eZ ⟨k,p,m,t,s⟩).md (eZ ⟨k,p,m,t,s⟩).sz=jZ (eZ ⟨k,p,m,t,s⟩)) :=rfl;obtain⟨Y,hY⟩:=named (jZ (eZ ⟨k,p,m,t,s⟩));rw[<- hY.out]at HHB HDL EO EM;rw[HHB.out]at EA;obtain⟨L,hL⟩:=named (jK ⟨k,p,m,t,s⟩);rw[<- hL.out]at PL EO EM HG HVL FL FP FBY;obtain⟨R,hR⟩:=named (nP ⟨k,p,m,t,s⟩);rw[<- hR.out]at EO EM ENB;rw[<- hR.out];obtain⟨T,hT⟩:=named (eZ ⟨k,p,m,t,s⟩).T;obtain⟨nm,hnm⟩:=named (eZ ⟨k,p,m,t,s⟩).nm;obtain⟨pf,hpf⟩:=named (eZ ⟨k,p,m,t,s⟩).pf;obtain⟨lk,hlk⟩:=named (eZ ⟨k,p,m,t,s⟩).lk;obtain⟨md,hmd⟩:=named (eZ ⟨k,p,m,t,s⟩).md;obtain⟨sz,hsz⟩:=named (eZ ⟨k,p,m,t,s⟩).sz;rw[<- hT.out,<- hnm.out,<- hpf.out,<- hlk.out,<- hmd.out,<- hsz.out]at PL EA;have HV:=aa V;obtain⟨i0,HI⟩:=dx (P:=Tryz.prog) (e:=5) (by kernel_rfl);clear V hp ht h e1 e2 hok z1 z2 z3 z4 HHB;go_enter Tryz.func57,Tryz.ntmps57;go_wp2_with (first| (refine af rfl 68 _ rfl (cB k p m t s) rfl ?_;intro w1 g1 b1;have E1:=aa g1;have B1:=aa b1;have c0:=E1.out.get 0 rfl;have c1:=E1.out.get 1 rfl;have c2:=E1.out.get 2 rfl;have c3:=E1.out.get 3 rfl;have c4:=E1.out.get 4 rfl;clear g1 b1));refine(PL.out w1 B1.out).mono ?_;rintro e w2 ⟨b,n,c,rfl,hn,hc,hm,hR2,b2⟩;have B2:=aa (ar B1.out b2);have HN:=aa hn;have HC:=aa hc;have HM:=aa hm;have I2:=aa hR2;clear b2 hn hc hm hR2 c0 c1 c2 c3 c4;go_wp2_with (first| (refine ag rfl 130 rfl Ust.bX HZ.out ?_;intro w4 g4 b4;have R4:=aa g4;have A4:=aa b4;clear g4 b4) | (refine ae rfl 130 _ _ rfl w2.heap.size rfl (Ust.bu T nm pf lk md sz) Ust.bX rfl 130 R4.out HO.out.2 rfl (bL _ _ _ _ _ _) ?_;intro w5 g5 t5;have X5:=aa g5;have A5:=aa (A4.out.trans (t5.below aj));have B5:=aa (ar B2.out A5.out);have I5:=aa (I2.out.below A5.out);have d0:=X5.out.get 0 rfl;have d1:=X5.out.get 1 rfl;have d2:=X5.out.get 2 rfl;have d3:=X5.out.get 3 rfl;have d4:=X5.out.get 4 rfl;have d5:=X5.out.get 5 rfl;clear g5 t5));refine(EA.out w5).mono ?_;rintro e w6 ⟨g6,rfl,a6,x6,y6,b6⟩;have A6:=aa a6;have X6:=aa (Nat.le_trans B5.out.size x6);have Y6:=aa y6;have B6:=aa (ar B5.out b6);have I6:=aa (I5.out.below b6);clear a6 x6 y6 b6 d0 d1 d2 d3 d4 d5;by_cases hn0:n=0
 ·subst hn0;have HEO:=aa (EO.out HN.out);go_wp2_with fail;go_ret2;exact⟨some ⟨g6,0,none⟩,512,512,rfl,by rw[HEO.out];exact HDL.out,aj,by unfold maxLen;decide,by rw[HEO.out];exact .cH A6.out Y6.out,fun x hx=>by cases hx;exact X6.out,B6.out⟩
 ·have hnn:L.length≠0:=by rw[HN.out];exact hn0
  have HEM:=aa (EM.out hnn);have HP1:=aa (FP.out hnn);have n1: ((n:Int) ==0) =false:=by simp[hn0]
  clear hnn hn0;go_wp2_with fail;refine(sA b n c L w6 (HV.out.go B6.out).v (fun r hr=>Nat.le_trans (HVL.out r hr) (by unfold maxLen;decide)) HN.out HC.out HM.out I6.out HG.out HP1.out (by have:=FL.out;omega)).mono ?_;rintro e w7 ⟨v7,rfl,o7,b7⟩;have O7:=aa o7;have B7:=aa (ar B6.out b7);have A7:Hid (aO w7 g6 0 Y) :=A6.out.below b7 Y6.out;have Y7:=aa (Nat.lt_of_lt_of_le Y6.out b7.size);obtain⟨q7,hq7⟩:=named (512+ (iT (fJ L)).length);rw[<- hq7.out]at O7
  have Q7:Hid (q7<=300000) :=by
   show _<=_;rw[hq7.out];have:=FL.out;unfold iT;rw[List.length_append,aB];have:bV (fJ L).length<512:=by unfold bV;omega
   omega
  have HSZ:Hid (w6.heap.size<=w7.heap.size) :=b7.size;clear o7 b7;go_wp2_with (first| (at_builtin;refine bP rfl _ _ 25 rfl w6.heap.size 5 i0 Tryz.underlying25 HI v7 q7 _ rfl O7.out g6 0 512 512 Y rfl A7.out HDL.out (by have:=Q7.out;omega) HSZ.out ?_;intro v8 w8 h8 b8;have H8:=aa h8;have B8:=aa (B7.out.trans (b8.mono B6.out.size));clear h8 b8));go_ret2;exact .own (by rw[HEM.out];exact H8.out) ENB.out B6.out.size B8.out
end
theorem yc (e:fM)(w:World)(V:dS w)(hp:e.p.size<=maxLen)(ht:e.t.size<=maxLen) :
 Calls Tryz.prog 57 #[.agg (cB e.k e.p e.m e.t e.s).toArray] w (eO (nP e) (dn e) w) :=by
 obtain⟨k,p,m,t,s⟩:=e;by_cases h:dn ⟨k,p,m,t,s⟩=0
 ·rw[h];exact Be w V hp ht h
 ·rw[tV h];exact yf k p m t s w V hp ht h
end fQ
namespace Flt
open Go.RowKit Go.Proofs.YtcjagakckffkiaaGreatDoor.Fit Go.Proofs.YtcjagakckffkiaaGreatDoor.fQ Pnm Tre
def nH (L:List Mb) :Int:= ((L.find? fun x=>decide (dn x.e≠0)).map fun x=>dn x.e).getD 0
def GJ (x:Mb) :Nat:= (nP x.e).length+512*fK x.e.s.toNat
def rX (L:List Mb)(j:Nat) :Nat:= ((L.take j).map GJ).sum
end Flt
namespace Arc
open Go.Lib Go.RowKit Go.Proofs.YtcjagakckffkiaaGreatDoor.Fit Pxr Pnm Tre Flt fQ Reb
theorem Di {x:Mb}(h:wD x) : (si x).length % 512=0:=by
 obtain⟨h1,h2⟩:=iO h.1;rw[ku,ij]
 split at h2<;>omega
theorem tA:∀{A:List Mb},(∀x∈A,wD x)-> (dJ A).length % 512=0
 | [],_=>rfl
 |x::A,h=>by
  have h1:=Di (h x List.mem_cons_self);have h2:=tA fun y hy=>h y (List.mem_cons_of_mem x hy);rw[qy,List.length_append];omega
end Arc
namespace Pxr
open Go.RowKit
def qw (zs:List Int)(E:Int)(w:World)(e:Ending)(w':World) :Prop:=
 ∃b m c,e= .returned (.tuple #[.slice b m c,.int .i64 E])/\zs.length=m/\BytesIn w' b zs/\Below w.heap.size w w'
theorem qw.nil {E:Int}{w w':World}(h:Below w.heap.size w w') :qw [] E w (.returned (.tuple #[.slice none 0 0,.int .i64 E])) w':=
 ⟨none,0,0,rfl,rfl,.inl rfl,h⟩
theorem rK (a:Option Addr)(cap:Nat)(w:World) :Calls Tryz.prog 73 #[.slice a 0 cap] w (qw [] 0 w) :=by
 obtain⟨c,w2,hrun,h1,h2,h3⟩:=fj (P:=Tryz.prog) w Tryz.underlying9 Tryz.underlying25 Tryz.underlying5 {data:= #[]};go_enter Tryz.func73,Tryz.ntmps73;go_wp2;go_loop [4,5] (fun s i=>s= .string {data:= #[]}/\i= .int .i64 (0:Int)) (fun _ i=>0- (intOf i).toNat)
 case atStart=>exact⟨rfl,rfl⟩
 case round=>
  obtain⟨rfl,rfl⟩:=hrel;go_wp2;go_ret2;exact⟨_,_,c,rfl,rfl,.inl rfl,h2⟩
theorem qS {rs:List Rec}{j:Nat}(h:gP [] (rs.take j) =0) : (fJ (rs.take j)).length<=200000:=by
 have:=sF h j;rw[List.take_take,Nat.min_self]at this;omega
theorem pX (b off n cap:Nat)(rs:List Rec)(w:World)(hv:∀r∈rs,r.2.size<=maxLen)(hn:rs.length=n)(hc:n<=cap)(hm:cap<=maxLen)(hlt:b<w.heap.size)(hR:iL w b off rs) :
 Calls Tryz.prog 73 #[.slice (some ⟨b,off,none⟩) n cap] w (qw (xr rs) (gP [] rs) w) :=by
 obtain⟨E,hE⟩:=named (gP [] rs);obtain⟨X,hX⟩:=named (xr rs);rw[<- hE.out,<- hX.out];have HBAD:Hid (E≠0->X= []) :=fun h=>by rw[hX.out];unfold xr;rw[if_neg (by rw[<- hE.out];exact h)]
 have HGOOD:Hid (E=0->X=fJ rs) :=fun h=>by rw[hX.out];unfold xr;rw[if_pos (by rw[<- hE.out];exact h)]
 have HR:=aa hR;have HN:=aa hn;have HSZ:=aa hv;have HLT:=aa hlt;have HM:=aa hm;have HC:=aa hc;unfold maxLen at hm;clear hR hn hv hlt hX;go_enter Tryz.func73,Tryz.ntmps73;go_wp2;go_loopw [4,5] (fun s i wr=>∃j:Nat,i= .int .i64 j/\j<=n/\s= .string (strOfNums (fJ (rs.take j)))/\gP [] (rs.take j) =0/\gP (rs.take j) (rs.drop j) =E/\Below w.heap.size w wr) (fun _ i _=>n- (intOf i).toNat)
 case atStart=>exact⟨0,rfl,Nat.zero_le _,rfl,rfl,by rw[hE.out];rfl,au⟩
 case round=>
  obtain⟨j,rfl,hj,rfl,hf,he,hb⟩:=hrel;have HF:=aa hf;have HEJ:=aa he;have HL:=aa hb;have HSL:=aa (qS hf);clear hf he hb;obtain⟨S,hS⟩:=named (strOfNums (fJ (rs.take j)));rw[<- hS.out];have hSn:ad S=fJ (rs.take j) :=by rw[hS.out];exact ak (pB _)
  have ss: (S.size:Int)<=200000:=by rw[<- ah,hSn];have:=HSL.out;omega
  have HSN:=aa hSn;clear hSn;by_cases hjn:j<n
  ·obtain⟨r,hr⟩:=get_some (show j<rs.length by rw[HN.out];exact hjn);have hmem:r∈rs:=List.mem_of_getElem? hr;have hst:=mn hr
   have htake:rs.take (j+1) =rs.take j++ [r] :=by
    have hl:j<rs.length:= (List.getElem?_eq_some_iff.1 hr).1;rw[List.take_succ_eq_append_getElem hl,(List.getElem?_eq_some_iff.1 hr).2]
   obtain⟨K,D⟩:=r
   have KC:Hid (∀w',Below wr.heap.size wr w'->w'.cell? ⟨b,off+j*2,none⟩=some (.string K)/\w'.cell? ⟨b,off+j*2+1,none⟩=some (.string D)) :=fun w' hb=>
    ((HR.out.below HL.out HLT.out).below hb (Nat.lt_of_lt_of_le HLT.out HL.out.size)) j _ hr
   have c0:= (KC.out _ au).1;have c1:= (KC.out _ au).2;have j1: (j:Int) <n:=by omega
   rw[HEJ.out]at hst;obtain⟨C,hC⟩:=named (cA (K,D));have HCK:=aa fun(w':World) =>cv K D w' (HSZ.out _ hmem);rw[<- hC.out]at HCK;by_cases hC0:C=0
   ·have ch0:cA (K,D) =0:=by rw[<- hC.out];exact hC0
    have G:=lG ch0;have go:lx (K,D)<=100000:=by have:=G.lx;omega
    have HON:=aa fun(w':World) =>nu K D w' go;obtain⟨Y,hY⟩:=named (strOfNums (pw (K,D)));rw[<- hY.out]at HON;have hYn:ad Y=pw (K,D) :=by rw[hY.out];exact ak (kl _)
    have ys: (Y.size:Int)<=100000:=by rw[<- ah,hYn,js (by omega)];have:=G.sz;omega
    have HST:Hid (S++Y=strOfNums (fJ (rs.take (j+1)))) :=by
     show _=_;apply bQ;rw[dZ,HSN.out,hYn,ak (pB _),htake,qR]
    have next:dV (rs.take j) (K,D) =0->gP [] (rs.take (j+1)) =0/\gP (rs.take (j+1)) (rs.drop (j+1)) =E:=fun h=>by
     rw[h,if_neg (by simp)]at hst;refine⟨?_,hst.symm⟩;rw[htake,tZ,List.nil_append];refine⟨HF.out,?_⟩;rw[gZ,if_neg (by rw[h];simp)];rfl
    have wrong:dV (rs.take j) (K,D) =12->E=12:=fun h=>by rw[h,if_pos (by decide)]at hst;exact hst
    have NX:=aa next
    have WR:=aa wrong;clear next wrong hst hYn go
    by_cases h0:j=0
    ·have hd:decide ((0:Int) < (j:Int)) =false:=by rw[h0];decide
     have hd2:decide (0<j) =false:=by rw[h0];decide
     have nx:=NX.out (by unfold dV;rw[if_neg (by rw[ch0];simp),h0,List.take_zero,oM];rfl);have HF2:=aa nx.1;have HE2:=aa nx.2;subst hC0;clear ch0 nx hr hmem htake h0 G hjn;go_wp2_with fail;refine(HCK.out _).mono ?_;rintro e w1 ⟨rfl,b1⟩;have A1:=aa b1;have B1:=aa (ar HL.out b1);have d0:= (KC.out _ b1).1;have d1:= (KC.out _ b1).2;clear b1 c0 c1;go_wp2_with fail;go_quiet (fail);go_wp2_with fail;refine(HON.out _).mono ?_;rintro e w2 ⟨rfl,b2⟩;have B2:=aa (ar (B1.out.trans (aS _ _ nq)) b2);clear b2;go_wp2;go_roundw
     case rel=>exact⟨j+1,by go_num,by omega,by rw[<- HST.out],HF2.out,HE2.out,B2.out⟩
     case measure=>simp[intOf];omega
    ·obtain⟨m,hmm⟩:∃m,j=m+1:=⟨j- 1,by omega⟩;obtain⟨q,hq⟩:=get_some (show m<rs.length by rw[HN.out];omega)
     have KQ:Hid (∀w',Below wr.heap.size wr w'->w'.cell? ⟨b,off+m*2,none⟩=some (.string q.1)) :=fun w' hb=>
      (((HR.out.below HL.out HLT.out).below hb (Nat.lt_of_lt_of_le HLT.out HL.out.size)) m _ hq).1
     have hd:decide ((0:Int) < (j:Int)) =true:=decide_eq_true (by omega);have hd2:decide (0<j) =true:=decide_eq_true (by omega);have n1:IntKind.i64.wrap ((j:Int) - 1) = (m:Int) :=by rw[show(j:Int) - 1=m by omega];exact gw (by omega) (by omega)
     have n2: (m:Int) <n:=by omega
     have hle:=uC (rs:=rs.take j) (n:=m) (by rw[List.length_take,HN.out];omega) (by rw[List.getElem?_take,if_pos (by omega)];exact hq) K
     cases hKL:jv K q.1 with
     |true=>
      have R0:=aa (WR.out (by unfold dV;rw[if_neg (by rw[ch0];simp),hle,hKL];rfl));have hK': (Op.bytesLess K.toList q.1.toList||K.toList==q.1.toList) =true:=hKL;subst hC0;clear ch0 hr hmem htake h0 G hjn hle hKL hmm hq;go_wp2_with fail;refine(HCK.out _).mono ?_;rintro e w1 ⟨rfl,b1⟩;have A1:=aa b1;have B1:=aa (ar HL.out b1);have d0:= (KC.out _ b1).1;have d1:= (KC.out _ b1).2;clear b1 c0 c1;have c2:=KQ.out _ A1.out;go_wp2_with fail;go_quiet (fail);go_wp2;go_ret2;rw[HBAD.out (by rw[R0.out];decide),R0.out];exact .nil (B1.out.trans (aS _ _ _))
     |false=>
      have nx:=NX.out (by unfold dV;rw[if_neg (by rw[ch0];simp),hle,hKL];rfl);have HF2:=aa nx.1;have HE2:=aa nx.2;have hK': (Op.bytesLess K.toList q.1.toList||K.toList==q.1.toList) =false:=hKL;subst hC0;clear ch0 nx hr hmem htake h0 G hjn hle hKL hmm hq;go_wp2_with fail;refine(HCK.out _).mono ?_;rintro e w1 ⟨rfl,b1⟩;have A1:=aa b1;have B1:=aa (ar HL.out b1);have d0:= (KC.out _ b1).1;have d1:= (KC.out _ b1).2;clear b1 c0 c1;have c2:=KQ.out _ A1.out;go_wp2_with fail;go_quiet (fail);clear c2;go_wp2_with fail;refine(HON.out _).mono ?_;rintro e w2 ⟨rfl,b2⟩;have B2:=aa (ar (B1.out.trans (aS _ _ nq)) b2);clear b2;go_wp2;go_roundw
      case rel=>exact⟨j+1,by go_num,by omega,by rw[<- HST.out],HF2.out,HE2.out,B2.out⟩
      case measure=>simp[intOf];omega
   ·have R0:=aa (show E=C by
     rw[show dV (rs.take j) (K,D) =C by unfold dV;rw[if_pos (by rw[<- hC.out];exact hC0),hC.out],if_pos hC0]at hst;exact hst)
    have z4: (C !=0) =true:=by simpa using hC0
    have HC0:=aa hC0;clear hC0 hst hr hmem htake hjn;go_wp2_with fail;refine(HCK.out _).mono ?_;rintro e w1 ⟨rfl,b1⟩;have A1:=aa b1;have B1:=aa (ar HL.out b1);have d0:= (KC.out _ b1).1;have d1:= (KC.out _ b1).2;clear b1 c0 c1;go_wp2;go_ret2;rw[HBAD.out (by rw[R0.out];exact HC0.out),R0.out];exact .nil B1.out
  ·have hjn':j=n:=by omega
   have j1:¬(j:Int) <n:=by omega
   have R0:Hid (E=0) :=by
    show _=_;have h:=HEJ.out;rw[List.drop_eq_nil_of_le (by rw[HN.out];omega)]at h;exact h.symm
   have hall:Hid (fJ rs=ad S) :=by show _=_;rw[HSN.out,List.take_of_length_le (by rw[HN.out];omega)]
   have HM2:Hid (S.size<=200000) :=by show _<=_;omega
   obtain⟨c,w2,hrun,h1,h2,h3⟩:=fj (P:=Tryz.prog) wr Tryz.underlying9 Tryz.underlying25 Tryz.underlying5 S;have H1:=aa h1;have H2:=aa h2;have H3:=aa h3;clear hjn hjn' h1 h2 h3;go_wp2;go_ret2;rw[HGOOD.out R0.out,R0.out,hall.out];exact⟨_,_,c,rfl,ah S,.cH H1.out H3.out,ar HL.out H2.out⟩
theorem rJ (a:Option Addr)(n cap:Nat)(rs:List Rec)(w:World)(hv:∀r∈rs,r.2.size<=maxLen)(hn:rs.length=n)(hc:n<=cap)(hm:cap<=maxLen)(hR:cW w a rs) :
 Calls Tryz.prog 73 #[.slice a n cap] w (qw (xr rs) (gP [] rs) w) :=by
 rcases hR with rfl|⟨b,off,rfl,hlt,hat⟩
 ·obtain rfl:n=0:=hn.symm;exact rK a cap w
 ·exact pX b off n cap rs w hv hn hc hm hlt hat
end Pxr
end Go.Proofs.YtcjagakckffkiaaGreatDoor
