import Derived.Test.YtcjagakckffkiaaGreatDoorQ30
import Derived.Test.YtcjagakckffkiaaGreatDoorQ1
import Derived.Test.YtcjagakckffkiaaGreatDoorQ29
import Derived.Test.YtcjagakckffkiaaGreatDoorQ24
import Derived.Test.YtcjagakckffkiaaGreatDoorQ16
import Derived.Test.YtcjagakckffkiaaGreatDoorQ9
import Derived.Test.YtcjagakckffkiaaGreatDoorQ12
import Derived.Test.YtcjagakckffkiaaGreatDoorQ10
import Derived.Deep.RegionHeld3
set_option maxHeartbeats 16000000
namespace Go.Proofs.YtcjagakckffkiaaGreatDoor.Reb
open Go.RowKit Go.MapKept Go.Proofs.YtcjagakckffkiaaGreatDoor.Fit Pnm Tre Flt
theorem ji {w:World}{g gd N:Nat}{T:TypeId}{vs:List Value}{d:TypeDesc}{F:Value->Option Value}(h:ak w g T vs)(m:dP w gd d N F) :g≠gd:=by
 rintro rfl;obtain⟨xs,clk,m,_⟩:=m;unfold ak at h;rw[h]at m
 cases m
theorem fH {w:World}{base n size gd N:Nat}{e:TypeId}{v:Value}{xs:List Value}{d:TypeDesc}{F:Value->Option Value}(h:w.ownsRow base e size v n xs)(m:dP w gd d N F) :some gd≠v.ownBlock:=by
 rcases h.2 with⟨hv,_⟩|⟨b,cap,cur,hv,_,hh,_⟩
 ·subst hv;intro h;cases h
 ·subst hv;intro h;have h:some gd=some b:=h;injection h with h;subst h;obtain⟨xs,clk,m,_⟩:=m;rw[hh]at m
  cases m
theorem cS {w:World}{base n size g:Nat}{e T:TypeId}{v:Value}{xs vs:List Value}(h:w.ownsRow base e size v n xs)(m:ak w g T vs)(hne:T≠e) :some g≠v.ownBlock:=by
 rcases h.2 with⟨hv,_⟩|⟨b,cap,cur,hv,_,hh,_⟩
 ·subst hv;intro h;cases h
 ·subst hv;intro h;have h:some g=some b:=h;injection h with h;subst h;unfold ak at m;rw[hh]at m;injection m with m;injection m with _ m _;exact hne m.symm
theorem iR {w w':World}{base n size:Nat}{e:TypeId}{v:Value}{xs:List Value}(h:w.ownsRow base e size v n xs)(hk:∀k,v.ownBlock=some k->w'.heap[k]? =w.heap[k]?) :w'.ownsRow base e size v n xs:=by
 obtain⟨h1,h2⟩:=h;refine⟨h1,h2.imp id ?_⟩;rintro⟨b,cap,cur,hv,hb,hh,r⟩;exact⟨b,cap,cur,hv,hb,(hk b (by rw[hv];rfl)).trans hh,r⟩
section
variable {P:Program} {w:World} {ops:Array Oper} {o:Oper} {a:Act} {Q:Exit->Act->World->Prop} {K:Act->World->Prop} {E:Prop}
theorem bT (hgd:o.guard=none)(s x:Operand)(t:TypeId)(ho:o.op= .call {callee:= .builtin .append,args:= #[s,x],argTypes:= #[t,t]})
 (base:Nat)(e:TypeId)(i0:TypeInfo)(z:Value)(hT:P.underlying t=some (.slice e))(hI:Hid (P.info? e=some i0/\i0.zero=some z/\i0.size=6/\i0.bytes=80))(hz:z.cells.size=6)
 (v:Value)(n:Nat)(ys:List aL)(hs:a.eval s=v)(hown:w.ownsRow base e 6 v n (ax ys))(b:Option Addr)(m c:Nat)(xs:List aL)(hx:a.eval x= .slice b m c)(hy:bY w b xs)(hl:xs.length=m)(h47:n+m<=1759218604441)(hbase:base<=w.heap.size)
 (k:∀v' w',w'.ownsRow base e 6 v' (n+m) (ax (ys++xs))->Below base w w'-> (∀k,k<w.heap.size->some k≠v.ownBlock->w'.heap[k]? =w.heap[k]?)-> (v'.ownBlock=v.ownBlock\/v'.ownBlock=some w.heap.size)->K (a.put o.dst v') w') :
 if Region.wanted o (yielded ops a.tmps) =true then Oper.wp P o a w K Q else E:=by
 have hw:Region.wanted o (yielded ops a.tmps) =true:=by simp[Region.wanted,hgd]
 rw[if_pos hw];obtain⟨v',w',hr,h1,h2,h3,h4⟩:=kz (P:=P) (w:=w) t o.type e base i0 z hT hI hz v n ys hown b m c xs hy hl h47 hbase;unfold Oper.wp;simp[execOp,ho,resolve,invoke,builtin,hs,hx,hr,Result.andThen];exact k _ _ h1 h2 h3 h4
end
theorem mC.Gj {S:Nat->Prop}{w w':World}{y:ft}(h:mC w y)(ho:aA S w w')(e:y.n.d= []\/∀x,y.a=some x->¬S x.block) :mC w' y:=by
 rcases e with e|e
 ·obtain⟨h1,h2,h3,h4,_⟩:=h.d;exact⟨h.k,h.p,h.m,h.t,h.s,⟨h1,h2,h3,h4,.inl (by rw[e];rfl)⟩,h.l⟩
 ·exact h.only ho e
theorem mC.off {S:Nat->Prop}{w:World}{y:ft}(h:mC w y)(hS:∀k,S k->w.heap.size<=k) :y.n.d= []\/∀x,y.a=some x->¬S x.block:=by
 obtain⟨_,_,_,_,h5⟩:=h.d;rcases h5 with h5|⟨b,off,hb,hlt,_⟩
 ·exact .inl (List.length_eq_zero_iff.mp h5)
 ·refine .inr fun x hx hs=>?_;rw[hb]at hx
  cases hx
  exact absurd (hS _ hs) (Nat.not_le_of_lt hlt)
structure PM (w:World) (g:Nat) (a:Option Addr) (cap gd gf Nd Nf:Nat) (Fd Ff:Value->Option Value) (us:List aL) (A:List Mb) :Prop where
 o:ak w g 153 [.slice a A.length cap,.map (some gd),.map (some gf)]
 r:w.ownsRow 0 77 6 (.slice a A.length cap) A.length (ax us)
 e:aI us=aV A
 s:∀u∈us,pP u/\iq 0 w u
 md:dP w gd .string Nd Fd
 mf:dP w gf .string Nf Ff
 ne:gd≠gf
 ng:Gd A
section
variable {w:World} {g cap gd gf Nd Nf:Nat} {a:Option Addr} {Fd Ff:Value->Option Value} {us:List aL} {A:List Mb} {S:Nat->Prop}
theorem PB.eh (h:PB w g a cap gd gf Nd Nf Fd Ff us A) :PM w g a cap gd gf Nd Nf Fd Ff us A:=⟨h.o,h.r,h.e,h.s,h.md,h.mf,h.ne,h.ng⟩
theorem PM.dir (h:PM w g a cap gd gf Nd Nf Fd Ff us A){w':World}{N':Nat}{F':Value->Option Value}(m:dP w' gd .string N' F')(t:cX w w' gd) :PM w' g a cap gd gf N' Nf F' Ff us A:=
 ⟨h.o.aK t (ji h.o h.md),iR h.r fun k hk=>t.other fun e=>fH h.r h.md (by rw[<- e];exact hk.symm),h.e,fun u hu=>⟨(h.s u hu).1,iR (h.s u hu).2 fun k hk=>t.other fun e=>fH (h.s u hu).2 h.md (by rw[<- e];exact hk.symm)⟩,m,h.mf.block (t.other (Ne.symm h.ne)),h.ne,h.ng⟩
theorem PM.QU (h:PM w g a cap gd gf Nd Nf Fd Ff us A){w':World}{N':Nat}{F':Value->Option Value}(m:dP w' gf .string N' F')(t:cX w w' gf) :PM w' g a cap gd gf Nd N' Fd F' us A:=
 ⟨h.o.aK t (ji h.o h.mf),iR h.r fun k hk=>t.other fun e=>fH h.r h.mf (by rw[<- e];exact hk.symm),h.e,fun u hu=>⟨(h.s u hu).1,iR (h.s u hu).2 fun k hk=>t.other fun e=>fH (h.s u hu).2 h.mf (by rw[<- e];exact hk.symm)⟩,h.md.block (t.other h.ne),m,h.ne,h.ng⟩
theorem PM.below (h:PM w g a cap gd gf Nd Nf Fd Ff us A){w':World}(hb:Below w.heap.size w w') :PM w' g a cap gd gf Nd Nf Fd Ff us A:=
 ⟨h.o.below hb h.o.lt,cJ h.r hb ah,h.e,fun u hu=>⟨(h.s u hu).1,cJ (h.s u hu).2 hb ah⟩,h.md.below hb h.md.lt,h.mf.below hb h.mf.lt,h.ne,h.ng⟩
theorem PM.fin (h:PM w g a cap gd gf Nd Nf Fd Ff us A)(hi:Mf S g a gd gf us){w0:World}(ho:aA S w0 w)(hl:∀k,S k->k<w0.heap.size){y:Mb}(hy:As A y=0)(fd:Fm Fd (A++ [y]) 0 (fun _=> .bool true))(ff:Fm Ff (A++ [y]) 1 (fun r=> .int .i64 (r:Int)))
 {wn z2 z3 z4:World}{u:aL}{va:Option Addr}{vc:Nat}(hu:Nw S w wn A y u)(bn:Below w.heap.size w wn)(b2:Below wn.heap.size wn z2)
 (o3:z3.ownsRow 0 77 6 (.slice va (A.length+1) vc) (A.length+1) (ax (us++ [u])))(b3:Below 0 z2 z3)(k3:∀k,k<z2.heap.size->some k≠(Value.slice a A.length cap).ownBlock->z3.heap[k]? =z2.heap[k]?)
 (x3: (Value.slice va (A.length+1) vc).ownBlock= (Value.slice a A.length cap).ownBlock\/ (Value.slice va (A.length+1) vc).ownBlock=some z2.heap.size)
 (o4:ak z4 g 153 [.slice va (A.length+1) vc,.map (some gd),.map (some gf)])(t4:cX z3 z4 g) :
 aA S w0 z4/\my z4 (Grow S w0 z4) g (A++ [y]) :=by
 have B2:Below w.heap.size w z2:=ar bn b2;have H2:=h.below B2;have g2:g<z2.heap.size:=H2.o.lt;have kk:∀k,k<z2.heap.size->some k≠(Value.slice a A.length cap).ownBlock->k≠g->z4.heap[k]? =z2.heap[k]? :=fun k h1 h2 h3=> (t4.other h3).trans (k3 k h1 h2);have os:aA S z2 z4:=⟨(t4.below (Nat.zero_le _)).os.trans b3.os,(t4.below (Nat.zero_le _)).tape.trans b3.tape,(t4.below (Nat.zero_le _)).output.trans b3.output,by rw[t4.size];exact b3.size,fun k h1 h2=>kk k h1 (fun e=>h2 (eC h.r hi.r k e.symm)) fun e=>h2 (e▸hi.g)⟩;have OS:aA S w0 z4:=ho.trans ((aA.aq B2 ah).trans os)
 have fr:∀v:aL,iq 0 z2 v->iq 0 z4 v:=fun v hv=>iR hv fun k hk=>by
  refine kk k (oQ hv k hk).2 (fun e=>?_) (fun e=>cS hv H2.o (by decide) (by rw[<- e];exact hk.symm));rcases hv.2 with⟨hv',_⟩|⟨b,c1,cu1,hv',_,hh,_⟩
  ·rw[hv']at hk;cases hk
  ·have hk:some b=some k:=by rw[hv']at hk;exact hk
   injection hk with hk;subst hk;rcases H2.r.2 with⟨hr',_⟩|⟨b2,c2,cu2,hr',_,hh2,_⟩
   ·rw[hr']at e;cases e
   ·have e:some b=some b2:=by rw[hr']at e;exact e
    injection e with e;subst e;rw[hh]at hh2;injection hh2 with hh2;injection hh2 with _ hh2 _;exact absurd hh2 (by decide)
 have UL:us.length=A.length:=by rw[<- bg,h.e,dJ]
 refine⟨OS,va,vc,gd,gf,Nd,Nf,Fd,Ff,us++ [u],⟨?_,?_,?_,fun v hv=>?_,?_,fd,?_,ff,h.ne,mO h.ng hy⟩,?_,fun k hk=>?_⟩
 ·rw[List.length_append,List.length_singleton];exact o4
 ·rw[List.length_append,List.length_singleton];refine iR o3 fun k hk=>t4.other fun e=>?_;subst e;rcases x3 with x3|x3
  ·exact cS H2.r H2.o (by decide) (by rw[<- x3];exact hk.symm)
  ·rw[x3]at hk;injection hk with hk;omega
 ·rw[zg h.ng,<- h.e,<- hu.n];unfold aI;rw[List.map_append];rfl
 ·rcases List.mem_append.1 hv with hv|hv
  ·exact⟨(h.s v hv).1,fr v (H2.s v hv).2⟩
  ·obtain rfl:=List.mem_singleton.1 hv;exact⟨hu.s,fr v (cJ hu.f b2 ah)⟩
 ·exact H2.md.block (kk gd H2.md.lt (fH H2.r H2.md) (Ne.symm (ji H2.o H2.md)))
 ·exact H2.mf.block (kk gf H2.mf.lt (fH H2.r H2.mf) (Ne.symm (ji H2.o H2.mf)))
 ·refine⟨.inl hi.g,.inl hi.d,.inl hi.f,fun x hx=>?_,fun v hv x hx=>?_⟩
  ·subst hx;have ex: (Value.slice (some x) (A.length+1) vc).ownBlock=some x.block:=by simp[Value.ownBlock]
   rcases x3 with x3|x3
   ·exact .inl (eC h.r hi.r _ (by rw[<- x3];exact ex))
   ·have hx:x.block=z2.heap.size:=by rw[ex]at x3;injection x3
    have hlt:= (oQ o3 _ ex).2;refine .inr ⟨?_,by rw[t4.size];exact hlt⟩;rw[hx];exact Nat.le_trans ho.size B2.size
  ·rcases List.mem_append.1 hv with hv|hv
   ·exact .inl (hi.u v hv x hx)
   ·obtain rfl:=List.mem_singleton.1 hv;rcases hu.i x hx with h1|⟨h1,h2⟩
    ·exact .inl h1
    ·exact .inr ⟨Nat.le_trans ho.size h1,Nat.lt_of_lt_of_le h2 (Nat.le_trans b2.size os.size)⟩
 ·rcases hk with hk|⟨_,hk⟩
  ·exact Nat.lt_of_lt_of_le (hl k hk) OS.size
  ·exact hk
end
end Go.Proofs.YtcjagakckffkiaaGreatDoor.Reb
namespace Go.Proofs.YtcjagakckffkiaaGreatDoor.Reb
open Go.RowKit Go.MapKept Go.Proofs.YtcjagakckffkiaaGreatDoor.Fit Pnm Tre Flt
section
variable {w:World} {g cap gd gf Nd Nf:Nat} {a:Option Addr} {Fd Ff:Value->Option Value} {us:List aL} {A:List Mb}
set_option maxRecDepth 100000 in
theorem wX (hb:PB w g a cap gd gf Nd Nf Fd Ff us A)(p:ByteArray)(hp:p.size<=maxLen) :
 Calls Tryz.prog 181 #[.pointer (some ⟨g,0,none⟩),.string p] w fun e w'=>∃R:Bool,e= .returned (.bool R)/\ (R=true↔¬lu A p)/\Below w.heap.size w w':=by
 obtain⟨n,hn⟩:=named A.length;have HB:=ad hb;have HP:=ad hp;have nm:n<=9223372036854775807:=by have:=hb.arg.c;have:=hb.arg.m;unfold maxLen at this;rw[<- hn.out]at*;omega
 have nc: (n:Int)<=cap:=by have:=hb.arg.c;rw[<- hn.out]at this;omega
 have c0:w.cell? ⟨g,0,none⟩=some (.slice a n cap) :=by rw[hn.out];exact hb.o.get 0 rfl
 clear hb hp;by_cases h0:n=0
 ·subst h0;have LT:Hid (¬lu A p) :=fun h=>by have:=h.1;have:=hn.out;omega
  go_enter Tryz.func181,Tryz.ntmps181;go_wp2_with fail;go_ret;exact⟨true,rfl,⟨fun _=>LT.out,fun _=>rfl⟩,aF⟩
 ·obtain⟨N,hN⟩:∃N,n=N+1:=⟨n- 1,by omega⟩;have NE:¬(n:Int) =0:=by omega
  have WN:IntKind.i64.wrap ((n:Int) - 1) = (N:Int) :=by rw[show(n:Int) - 1= (N:Int) by omega];exact rQ (by omega) (by omega)
  obtain⟨b,u,rfl,hbl,hu,hun,hst,_,hat⟩:=HB.out.at_ (i:=N) (by have:=hn.out;omega);have gq:∀q:Of (fun w'=>Below w.heap.size w w'),q.w.cell? ⟨g,0,none⟩=some (.slice (some ⟨b,0,none⟩) n cap) :=fun q=>by rw[hn.out];exact(HB.out.below q.h).o.get 0 rfl
  have yq:∀q:Of (fun w'=>Below w.heap.size w w'),q.w.cell? ⟨b,N*6+1,none⟩=some (.string u.n.p) :=fun q=>by have:= ((hat.below q.h hbl).c hu).2.1;rw[Nat.zero_add]at this;exact this
  have YP:Hid (u.n.p.size<=maxLen) :=Nat.le_trans hst.p (by unfold maxLen;omega)
  have EY:Hid (u.n.p= (ma A (A.length- 1)).e.p) :=by
   show _=_;rw[hun,HB.out.ng.path (by have:=hn.out;omega)]
   congr 3;have:=hn.out;omega
  obtain⟨yp,hyp⟩:=named u.n.p;rw[<- hyp.out]at yq;obtain⟨Z,hZ⟩:=named (aP (af p) (af yp));have CZ:Hid (∀q:World,Calls Tryz.prog 97 #[.string p,.string yp] q fun e w'=>e= .returned (.int .i64 Z)/\Below q.heap.size q w') :=fun q=>by rw[hZ.out];exact Fz p yp q HP.out (by rw[hyp.out];exact YP.out)
  have LZ:Hid (¬lu A p↔0<Z) :=by
   show _↔_;unfold lu;rw[<- EY.out,hZ.out,<- hyp.out,fQ (af yp) (af p)];constructor
   ·intro h;refine Classical.byContradiction fun c=>h ⟨by have:=hn.out;omega,by omega⟩
   ·rintro h ⟨_,h2⟩;omega
  have n1: (N:Int) <n:=by omega
  have n2: (N:Int) <cap:=by omega
  clear hbl hu hun hst hat YP EY hyp hZ h0;go_enter Tryz.func181,Tryz.ntmps181;go_wp2_with fail;refine aC (S:=fun w'=>Below w.heap.size w w') (by kernel_rfl) (by kernel_rfl) aF.drew ?_;intro hne'
  repeat (go_big_quiet_step (fail))
  refine wpQuiet_nil ?_;rintro wq ⟨q,rfl⟩;have Q0:=ad q.h;go_wp2_with fail;refine(CZ.out _).mono ?_;rintro e w4 ⟨rfl,b4⟩;have B4:=ad (ar Q0.out b4);clear b4;by_cases z0:0<Z
  ·have d2:decide (0<Z) =true:=decide_eq_true z0;have LT:Hid (¬lu A p) :=LZ.out.mpr z0;go_wp2_with fail;go_ret;exact⟨true,rfl,⟨fun _=>LT.out,fun _=>rfl⟩,B4.out⟩
  ·have d2:decide (0<Z) =false:=decide_eq_false z0;have LT:Hid (lu A p) :=Classical.byContradiction fun h=>z0 (LZ.out.mp h);go_wp2_with fail;go_ret;exact⟨false,rfl,⟨(fun h=>by cases h),fun h=>absurd LT.out h⟩,B4.out⟩
set_option maxRecDepth 100000 in
theorem nH (hb:PB w g a cap gd gf Nd Nf Fd Ff us A)(t:ByteArray)(m:Int) :
 Calls Tryz.prog 182 #[.pointer (some ⟨g,0,none⟩),.string t,.int .i64 m] w fun e w'=>∃R:Bool,e= .returned (.bool R)/\ (R=true↔∃r,jL A 1 t=some r/\ (ma A r).e.m=m)/\w=w':=by
 obtain⟨n,hn⟩:=named A.length;have HB:=ad hb;have ZI:Hid ((Tryz.prog.info? 3).map (·.zero) =some (some (.int .i64 0))) :=by show _=_;kernel_rfl
 have nc: (n:Int)<=cap:=by have:=hb.arg.c;rw[<- hn.out]at this;omega
 have c0:w.cell? ⟨g,0,none⟩=some (.slice a n cap) :=by rw[hn.out];exact hb.o.get 0 rfl
 have c2:w.cell? ⟨g,2,none⟩=some (.map (some gf)) :=hb.o.get 2 rfl;have lk:= (bI (P:=Tryz.prog) (w:=w) 151 9 3 Tryz.underlying151 .string Tryz.underlying9 (.int .i64 0) ZI.out gf Nf (.string t) (show IsKey .string (.string t)from trivial) Ff hb.mf).1;rw[hb.ff t]at lk;clear hb;obtain⟨fo,hf⟩:∃fo,jL A 1 t=fo:=⟨_,rfl⟩
 cases fo with
 |none=>
  rw[hf]at lk;have lk': (Instr.lookup 151 (.map (some gf)) (.string t) true).run Tryz.prog w= .ok (.tuple #[.int .i64 0,.bool false]) w:=lk;have HF:=ad hf;clear lk hf;go_enter Tryz.func182,Tryz.ntmps182;go_wp2_with fail;go_ret;exact⟨false,rfl,⟨(fun h=>by cases h),fun⟨r,h,_⟩=>by rw[HF.out]at h;cases h⟩,rfl⟩
 |some r=>
  rw[hf]at lk;have lk': (Instr.lookup 151 (.map (some gf)) (.string t) true).run Tryz.prog w= .ok (.tuple #[.int .i64 r,.bool true]) w:=lk;have HF:=ad hf;clear lk hf;obtain⟨hr,hk,_,_⟩:=eP.mp HF.out;obtain⟨b,u,rfl,hbl,hu,hun,hst,_,hat⟩:=HB.out.at_ (i:=r) hr;have y2:= (hat.c hu).2.2.1
  have EM:Hid (u.n.m= (ma A r).e.m) :=by
   show _=_;rw[hun];unfold dQ;rw[if_neg (by omega)]
  rw[Nat.zero_add]at y2;obtain⟨M,hM⟩:=named u.n.m;rw[<- hM.out]at y2;have EM':Hid (M= (ma A r).e.m) :=hM.out.trans EM.out;have r1: (r:Int) <n:=by have:=hn.out;omega
  have r2: (r:Int) <cap:=by omega
  have r3: (0:Int)<=r:=by omega
  clear hr hk hbl hu hun hst hat EM hM;by_cases hm:M=m
  ·have d2: (M==m) =true:=by simpa using hm
   have EX:Hid (∃r,jL A 1 t=some r/\ (ma A r).e.m=m) :=⟨r,HF.out,by rw[<- EM'.out];exact hm⟩;clear hm;go_enter Tryz.func182,Tryz.ntmps182;go_wp2_with fail;go_ret;exact⟨true,rfl,⟨fun _=>EX.out,fun _=>rfl⟩,rfl⟩
  ·have d2: (M==m) =false:=by simpa using hm
   have EX:Hid (¬∃r,jL A 1 t=some r/\ (ma A r).e.m=m) :=fun⟨q,h1,h2⟩=>by
    rw[HF.out]at h1;obtain rfl:=Option.some.inj h1;exact hm (by rw[EM'.out];exact h2)
   clear hm;go_enter Tryz.func182,Tryz.ntmps182;go_wp2_with fail;go_ret;exact⟨false,rfl,⟨(fun h=>by cases h),fun h=>absurd h EX.out⟩,rfl⟩
end
end Go.Proofs.YtcjagakckffkiaaGreatDoor.Reb
namespace Go.Proofs.YtcjagakckffkiaaGreatDoor.Reb
open Go.RowKit Go.Proofs.YtcjagakckffkiaaGreatDoor.Fit Pnm Tre Flt
section
variable {A:List Mb} {e:dY}
theorem Nn (h:dn e≠0) :iu A e=dn e:=by unfold iu;rw[if_pos h]
theorem Dg (h0:dn e=0)(h:lu A e.p) :iu A e=12:=by unfold iu;rw[if_neg (fun c=>c h0),if_pos h]
theorem KM (h0:dn e=0)(h1:¬lu A e.p)(h:lB A e.p) :iu A e=13:=by unfold iu;rw[if_neg (fun c=>c h0),if_neg h1,if_pos h]
theorem xE (h0:dn e=0)(h1:¬lu A e.p)(h2:¬lB A e.p)(h:mh A e) :iu A e=15:=by unfold iu;rw[if_neg (fun c=>c h0),if_neg h1,if_neg h2,if_pos h]
end
end Go.Proofs.YtcjagakckffkiaaGreatDoor.Reb
namespace Go.Proofs.YtcjagakckffkiaaGreatDoor.Reb
open Go.RowKit Go.MapKept Go.Proofs.YtcjagakckffkiaaGreatDoor.Fit Pnm Tre Flt
theorem By (k:Int)(p:ByteArray)(m:Int)(t:ByteArray)(s:Int)(w:World) :
 Calls Tryz.prog 124 #[.pointer none,.agg (aR k p m t s).toArray] w fun e w'=>e= .returned (.int .i64 1)/\Below w.heap.size w w':=by
 go_enter Tryz.func124,Tryz.ntmps124;go_wp2_with (first| (refine aj rfl 68 _ rfl (aR k p m t s) rfl ?_;intro w1 g1 b1;have B1:=ad b1;clear g1 b1));go_ret;exact⟨rfl,B1.out⟩
section
variable {w:World} {g cap gd gf Nd Nf:Nat} {a:Option Addr} {Fd Ff:Value->Option Value} {us:List aL} {A:List Mb}
set_option maxRecDepth 100000 in
theorem tQ (hb:PB w g a cap gd gf Nd Nf Fd Ff us A)(V:dF w)(k:Int)(p:ByteArray)(m:Int)(t:ByteArray)(s:Int)(hp:p.size<=maxLen)(ht:t.size<=maxLen) :
 Calls Tryz.prog 124 #[.pointer (some ⟨g,0,none⟩),.agg (aR k p m t s).toArray] w fun e w'=>e= .returned (.int .i64 (iu A ⟨k,p,m,t,s⟩))/\Below w.heap.size w w':=by
 obtain⟨R,hR⟩:=named (iu A ⟨k,p,m,t,s⟩);obtain⟨X,hX⟩:=named (dn ⟨k,p,m,t,s⟩);obtain⟨P,hP⟩:=named (strOfNums (bh (af p)));rw[<- hR.out];have HB:=ad hb;have HV:=ad V;have HP:=ad hp;have EO:=ad Bt;have ZB:Hid ((Tryz.prog.info? 4).map (·.zero) =some (some (.bool false))) :=by show _=_;kernel_rfl
 have C1:Hid (∀w',Below w.heap.size w w'->Calls Tryz.prog 86 #[.agg (aR k p m t s).toArray] w' fun e w''=>e= .returned (.int .i64 X)/\Below w'.heap.size w' w'') :=fun w' h=>by rw[hX.out];exact lV k p m t s w' (HV.out.go h) hp ht
 have C2:Hid (∀w',Calls Tryz.prog 92 #[.string p] w' fun e w''=>e= .returned (.string P)/\Below w'.heap.size w' w'') :=fun w'=>by rw[hP.out];exact Ae p w' hp
 have NP:Hid (lB A p↔¬P=emp/\jL A 0 P=none) :=by
  show _↔_;unfold lB;rw[hP.out,wg]
 have NF:Hid (mh A ⟨k,p,m,t,s⟩↔k=3/\¬∃r,jL A 1 t=some r/\ (ma A r).e.m=m) :=by
  show _↔_;unfold mh;exact and_congr_right fun _=>⟨fun h ⟨r,h1,h2⟩=>h r h1 h2,fun h r h1 h2=>h ⟨r,h1,h2⟩⟩
 clear hb V hp ht hP;go_enter Tryz.func124,Tryz.ntmps124;go_wp2_with (first| (refine aj rfl 68 _ rfl (aR k p m t s) rfl ?_;intro w1 g1 b1;have G1:=ad g1;have B1:=ad b1;clear g1 b1) | (refine aG rfl 68 5 EO.out _ rfl w.heap.size rfl 68 (aR k p m t s) G1.out rfl ?_));refine(C1.out w1 B1.out).mono ?_;rintro e w2 ⟨rfl,b2⟩;have G2:=ad (G1.out.below b2 G1.out.lt);have B2:=ad (ar B1.out b2);clear b2 G1 B1 C1;by_cases x0:¬X=0
 ·have nx: (X !=0) =true:=by simpa using x0
  obtain rfl:R=X:=by rw[hR.out,hX.out];exact Nn (by rw[<- hX.out];exact x0)
  go_wp2_with fail;go_ret;exact⟨rfl,B2.out⟩
 obtain rfl:X=0:=Decidable.not_not.mp x0;have CK:=ad hX.out.symm;clear x0 hX;have e1:=G2.out.get 1 rfl;go_wp2_with fail;refine(C2.out w2).mono ?_;rintro e w3 ⟨rfl,b3⟩;have G3:=ad (G2.out.below b3 G2.out.lt);have B3:=ad (ar B2.out b3);have HB3:=ad (HB.out.below B3.out);clear b3 e1 G2 B2 C2;have e1:=G3.out.get 1 rfl;go_wp2_with fail;refine(wX HB3.out p HP.out).mono ?_;rintro e w4 ⟨R1,rfl,h1,b4⟩;have H1:=ad h1;have G4:=ad (G3.out.below b4 G3.out.lt);have B4:=ad (ar B3.out b4);have HB4:=ad (HB.out.below B4.out);clear b4 e1 G3 B3 HB3 h1
 cases R1 with
 |false=>
  have LT:Hid (lu A p) :=Classical.byContradiction fun h=>by have:=H1.out.mpr h;cases this
  obtain rfl:R=12:=by rw[hR.out];exact Dg CK.out LT.out
  go_wp2_with fail;go_ret;exact⟨rfl,B4.out⟩
 |true=>
 have LT:Hid (¬lu A p) :=H1.out.mp rfl;clear H1;have d1:w4.cell? ⟨g,1,none⟩=some (.map (some gd)) :=HB4.out.o.get 1 rfl;have e0:=G4.out.get 0 rfl;have e2:=G4.out.get 2 rfl;have e3:=G4.out.get 3 rfl
 have ways:Hid ((P=emp\/ (¬P=emp/\∃r,jL A 0 P=some r))\/ (¬P=emp/\jL A 0 P=none)) :=by
  show _\/_;by_cases h:P=emp
  ·exact .inl (.inl h)
  ·cases hf:jL A 0 P with
   |none=>exact .inr ⟨h,rfl⟩
   |some r=>exact .inl (.inr ⟨h,r,rfl⟩)
 have LD:Hid ((Instr.lookup 150 (.map (some gd)) (.string P) false).run Tryz.prog w4= .ok ((Option.map (fun _=>Value.bool true) (jL A 0 P)).getD (.bool false)) w4) :=by
  have lk:= (bI (P:=Tryz.prog) (w:=w4) 150 9 4 Tryz.underlying150 .string Tryz.underlying9 (.bool false) ZB.out gd Nd (.string P) (show IsKey .string (.string P)from trivial) Fd HB4.out.md).2;rw[HB4.out.fd P]at lk;exact lk
 rcases ways.out with hgood|⟨hne,hf⟩
 ·have NPN:Hid (¬lB A p) :=fun h=>by
   obtain⟨h1,h2⟩:=NP.out.mp h;rcases hgood with h3|⟨_,r,h3⟩
   ·exact h1 h3
   ·rw[h2]at h3;cases h3
  have ld:P=emp\/ (¬P=emp/\ (Instr.lookup 150 (.map (some gd)) (.string P) false).run Tryz.prog w4= .ok (.bool true) w4) :=by
   rcases hgood with h3|⟨h3,r,h4⟩
   ·exact .inl h3
   ·refine .inr ⟨h3,?_⟩;have:=LD.out;rw[h4]at this;exact this
  clear hgood ways LD NP;by_cases k3:k=3
  ·subst k3;rcases ld with rfl|⟨hne,ld⟩
   ·go_wp2_with fail;refine(nH HB4.out t m).mono ?_;rintro e w5 ⟨R2,rfl,h2,rfl⟩
    cases R2 with
    |false=>
     obtain rfl:R=15:=by rw[hR.out];exact xE CK.out LT.out NPN.out (NF.out.mpr ⟨trivial,fun h=>by have:=h2.mpr h;cases this⟩)
     clear h2 hR;go_wp2_with fail;go_ret;exact⟨rfl,B4.out⟩
    |true=>
     obtain rfl:R=0:=by rw[hR.out];exact fc.mpr ⟨CK.out,LT.out,NPN.out,fun h=> (NF.out.mp h).2 (h2.mp rfl)⟩
     clear h2 hR;go_wp2_with fail;go_ret;exact⟨rfl,B4.out⟩
   ·have pe:=ed hne;clear hne;go_wp2_with fail;refine(nH HB4.out t m).mono ?_;rintro e w5 ⟨R2,rfl,h2,rfl⟩
    cases R2 with
    |false=>
     obtain rfl:R=15:=by rw[hR.out];exact xE CK.out LT.out NPN.out (NF.out.mpr ⟨trivial,fun h=>by have:=h2.mpr h;cases this⟩)
     clear h2 hR;go_wp2_with fail;go_ret;exact⟨rfl,B4.out⟩
    |true=>
     obtain rfl:R=0:=by rw[hR.out];exact fc.mpr ⟨CK.out,LT.out,NPN.out,fun h=> (NF.out.mp h).2 (h2.mp rfl)⟩
     clear h2 hR;go_wp2_with fail;go_ret;exact⟨rfl,B4.out⟩
  ·have n3: (k==3) =false:=by simpa using k3
   obtain rfl:R=0:=by rw[hR.out];exact fc.mpr ⟨CK.out,LT.out,NPN.out,fun h=>k3 (NF.out.mp h).1⟩
   clear k3 hR;rcases ld with rfl|⟨hne,ld⟩
   ·go_wp2_with fail;go_ret;exact⟨rfl,B4.out⟩
   ·have pe:=ed hne;clear hne;go_wp2_with fail;go_ret;exact⟨rfl,B4.out⟩
 ·have NPY:Hid (lB A p) :=NP.out.mpr ⟨hne,hf⟩;obtain rfl:R=13:=by rw[hR.out];exact KM CK.out LT.out NPY.out
  have ld: (Instr.lookup 150 (.map (some gd)) (.string P) false).run Tryz.prog w4= .ok (.bool false) w4:=by
   have:=LD.out;rw[hf]at this;exact this
  have pe:=ed hne;clear hne hf ways LD NP hR;go_wp2_with fail;go_ret;exact⟨rfl,B4.out⟩
end
end Go.Proofs.YtcjagakckffkiaaGreatDoor.Reb
namespace Go.Proofs.YtcjagakckffkiaaGreatDoor.Reb
open Go.RowKit Go.Proofs.YtcjagakckffkiaaGreatDoor.Fit Pnm Tre Flt
section
variable {A:List Mb} {x:Mb}
theorem Oe (h:iu A x.e≠0) :As A x=iu A x.e:=by unfold As;rw[if_pos h]
theorem OQ (h0:iu A x.e=0)(h:¬(x.d.length:Int) =x.e.s) :As A x=2:=by unfold As;rw[if_neg (fun c=>c h0),if_pos h]
theorem MA (h0:iu A x.e=0)(h: (x.d.length:Int) =x.e.s) :As A x=0:=fU.mpr ⟨h0,h⟩
end
theorem sS {S:Nat->Prop}{w w':World}{g:Nat}(t:cX w w' g)(h:S g) :aA S w w':=
 ⟨(t.below (Nat.zero_le _)).os,(t.below (Nat.zero_le _)).tape,(t.below (Nat.zero_le _)).output,(t.below (Nat.zero_le _)).size,fun _ _ hk=>t.other fun e=>hk (e▸h)⟩
theorem aB.vQ {w w':World}{g len cap n c:Nat}{a b:Option Addr}{T:TypeId}{zs:List Int}(h:aB .u8 w a len cap zs)(ho:ak w g T [.slice b n c])(t:cX w w' g) :aB .u8 w' a len cap zs:=by
 obtain⟨h1,h2,h3,h4,h5⟩:=h;refine⟨h1,h2,h3,h4,?_⟩;rcases h5 with h5|⟨q,off,rfl,hb,hc⟩
 ·exact .inl h5
 ·by_cases hz:len=0
  ·exact .inl hz
  ·have hne:q≠g:=by
    rintro rfl;have:=hc 0 (by omega);rw[ho.cell]at this
    cases off with
    |zero=>simp at this
    |succ off=>simp at this
   refine .inr ⟨q,off,rfl,by rw[t.size];exact hb,fun i hi=>?_⟩;have:=hc i hi;unfold World.cell? at this⊢;rw[t.other hne];exact this
theorem mC.vQ {w w':World}{g n c:Nat}{b:Option Addr}{T:TypeId}{y:ft}(h:mC w y)(ho:ak w g T [.slice b n c])(t:cX w w' g) :mC w' y:=⟨h.k,h.p,h.m,h.t,h.s,aB.vQ h.d ho t,h.l⟩
end Go.Proofs.YtcjagakckffkiaaGreatDoor.Reb
namespace Go.Proofs.YtcjagakckffkiaaGreatDoor
open Go.RowKit Go.MapKept
section
variable {P:Program} {w:World}
theorem xa (T:TypeId)(kt et:TypeId)(hT:P.underlying T=some (.map kt et))(d:TypeDesc)(hk:P.underlying kt=some d)
 (g:Nat)(kv:Value)(hkey:IsKey d kv)(v:Value)(n:Nat)(F:Value->Option Value)(hg:dP w g d n F) :
 ∃w',(Instr.mapUpdate T (.map (some g)) kv v).run P w= .ok () w'/\dP w' g d (if F kv=none then n+1 else n) (rW F kv v)/\cX w w' g:=by
 obtain⟨xs,clk,h1,h2,h3,h4⟩:=hg;have hlt:g<w.heap.size:= (Array.getElem?_eq_some_iff.1 h1).1
 have vQ:∀(xs':Array MapEntry) (c':Nat),cX w {w with heap:=w.heap.setIfInBounds g (.map xs' c')} g:=fun xs' c'=>⟨fun hB=>⟨rfl,rfl,rfl,by simp,fun i hi=>by
  show(w.heap.setIfInBounds g _)[i]? =w.heap[i]?;rw[Array.getElem?_setIfInBounds_ne (by omega)]⟩,fun{k} hkg=>by
  show(w.heap.setIfInBounds g _)[k]? =w.heap[k]?;rw[Array.getElem?_setIfInBounds_ne (by omega)],by simp⟩
 rcases qa hkey xs.toList 0 h2 with⟨f1,f2⟩|⟨l1,e,l2,f1,f2,f3,f4,f5⟩
 ·have hF:F kv=none:=by rw[<- h4];exact f2
  have hrun: (Instr.mapUpdate T (.map (some g)) kv v).run P w= .ok () {w with heap:=w.heap.setIfInBounds g (.map (xs.push {key:=kv,val:=v,born:=clk}) (clk+1))} :=by
   simp[Instr.mapUpdate,run_underlying hT,Go.MapKept.run_getObj_map h1,run_checkKey (w:=w) hk hkey,run_findKey (w:=w) hk f1,Go.MapKept.run_setObj_map _ h1,Result.andThen]
  refine⟨_,hrun,⟨xs.push {key:=kv,val:=v,born:=clk},clk+1,by simp[hlt],?_,?_,?_⟩,vQ _ _⟩
  ·intro x hx;simp only[Array.toList_push,List.mem_append,List.mem_singleton]at hx;rcases hx with hx|rfl
   ·exact h2 x hx
   ·exact hkey
  ·rw[if_pos hF,Array.size_push,h3]
  ·intro k';rw[Array.toList_push];by_cases c:k'=kv
   ·subst c;rw[cP,iG _ _ (vB f2),lk,if_pos rfl]
   ·rw[eV c,uS (fun h=>c h.symm),h4]
 ·have hF:F kv≠none:=by rw[<- h4,f5];exact fun h=>by cases h
  have hlen:l1.length<xs.toList.length:=by rw[f1];simp
  have hj:xs[l1.length]? =some e:=by
   rw[<- Array.getElem?_toList,f1,List.getElem?_append_right ah,Nat.sub_self];rfl
  rw[Nat.zero_add]at f4
  have hrun: (Instr.mapUpdate T (.map (some g)) kv v).run P w= .ok () {w with heap:=w.heap.setIfInBounds g (.map (xs.modify l1.length fun e=> {e with key:=kv,val:=v}) clk)} :=by
   simp[Instr.mapUpdate,run_underlying hT,Go.MapKept.run_getObj_map h1,run_checkKey (w:=w) hk hkey,run_findKey (w:=w) hk f4,hj,f2,run_keyThatStays hkey,Go.MapKept.run_setObj_map _ h1,Result.andThen]
  have hl: (xs.modify l1.length fun e=> {e with key:=kv,val:=v}).toList=l1++ {e with key:=kv,val:=v} ::l2:=by
   rw[Array.toList_modify,f1,List.modify_eq_take_cons_drop (by simp)];simp
  refine⟨_,hrun,⟨xs.modify l1.length fun e=> {e with key:=kv,val:=v},clk,by simp[hlt],?_,?_,?_⟩,vQ _ _⟩
  ·rw[hl];intro x hx;rcases List.mem_append.1 hx with hx|hx
   ·exact h2 x (by rw[f1];exact List.mem_append_left _ hx)
   ·rcases List.mem_cons.1 hx with rfl|hx
    ·exact hkey
    ·exact h2 x (by rw[f1];exact List.mem_append_right _ (List.mem_cons_of_mem _ hx))
  ·rw[if_neg hF,Array.size_modify,h3]
  ·intro k';rw[hl];by_cases c:k'=kv
   ·subst c;rw[cP,iG _ _ f3,lk,if_pos rfl]
   ·rw[eV c,qV (k:=kv) f2 rfl c,<- f1,h4]
variable {ops:Array Oper} {o:Oper} {a:Act} {Q:Exit->Act->World->Prop} {K:Act->World->Prop} {E:Prop}
theorem jK (hgd:o.guard=none)(T:TypeId)(m k x:Operand)(ho:o.op= .mapUpdate T m k x)(kt et:TypeId)(hT:P.underlying T=some (.map kt et))(d:TypeDesc)(hk:P.underlying kt=some d)
 (g:Nat)(hm:a.eval m= .map (some g))(kv:Value)(hkv:a.eval k=kv)(hkey:IsKey d kv)(v:Value)(hv:a.eval x=v)(n:Nat)(F:Value->Option Value)(hg:dP w g d n F)
 (h:∀w',dP w' g d (if F kv=none then n+1 else n) (rW F kv v)->cX w w' g->K (a.put o.dst undef) w') :
 if Region.wanted o (yielded ops a.tmps) =true then Oper.wp P o a w K Q else E:=by
 have hw:Region.wanted o (yielded ops a.tmps) =true:=by simp[Region.wanted,hgd]
 rw[if_pos hw];obtain⟨w',hrun,h1,h2⟩:=xa (P:=P) T kt et hT d hk g kv hkey v n F hg;unfold Oper.wp;simp[execOp,ho,hm,hkv,hv,hrun,Result.andThen];exact h _ h1 h2
end
end Go.Proofs.YtcjagakckffkiaaGreatDoor
