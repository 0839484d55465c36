import Derived.Test.YtcjagakckffkiaaGreatDoorS31
set_option maxHeartbeats 16000000
set_option maxRecDepth 100000
namespace Go.Proofs.YtcjagakckffkiaaGreatDoor
namespace Flt
open Go.RowKit
section
variable {P:Program} {w:World} {ops:Array Oper} {o:Oper} {a:Act} {Q:Exit->Act->World->Prop} {K:Act->World->Prop} {E:Prop}
theorem fT {T:TypeId}{n:Nat}(hT:fV P T n)(b off:Nat)(vs:List Value)(hl:vs.length=n)(hr:∀j u,vs[j]? =some u->w.cell? ⟨b,off+j,none⟩=some u) :
 (loadVar T ⟨b,off,none⟩).run P w= .ok (.agg vs.toArray) w:=by
 obtain⟨⟨fs,h1⟩,hs⟩:=hT;have hll:=run_loadCells_list (P:=P) w ⟨b,off,none⟩ vs (fun j u hj=>by rw[cO];exact hr j u hj);rw[hl]at hll
 cases hq:P.info? T with
 |none=>simp[hq]at hs
 |some i=>
  have hs:i.size=n:=by simpa [hq]using hs
  have hagg: (isAgg T).run P w= .ok true w:=by
   unfold isAgg;rw[Sem.run_bind,run_underlying h1 w];simp
  simp[loadVar,Sem.run_bind,hagg,sizeOf,typeInfo,hq,hs,hll]
theorem gv {rest:List Oper}(hgd:o.guard=none)(T:TypeId)(n:Nat)(hT:fV P T n)(x:Operand)(ho:o.op= .load T x)(b off:Nat)(hx:a.eval x= .pointer (some ⟨b,off,none⟩))(vs:List Value)(hl:vs.length=n)
 (hr:∀j u,vs[j]? =some u->w.cell? ⟨b,off+j,none⟩=some u)(K':wpList P ops Q rest (a.put o.dst (.agg vs.toArray)) w) :wpList P ops Q (o::rest) a w:=by
 refine wpList_plain hgd fun K hK=>?_;have hrun:=fT hT b off vs hl hr;unfold Oper.wp execOp;simp only[ho,hx,Instr.loadAt,Instr.sureAddr,Sem.run_bind,Sem.run_pure,Result.andThen_ok,hrun];exact hK _ _ K'
end
end Flt
namespace Reb
open Go.RowKit Go.MapKept Go.Proofs.YtcjagakckffkiaaGreatDoor.Fit Pnm Tre Flt
structure uN (u:aP) :Prop where
 k: (Lit.int .i64 u.n.k).wf=true
 p:u.n.p.size<=140737488355328
 m: (Lit.int .i64 u.n.m).wf=true
 t:u.n.t.size<=140737488355328
 z:∀z∈u.n.d,(Lit.int .u8 z).wf=true
 l:u.n.d.length<=140737488355328
 c: (Lit.int .i64 u.n.c).wf=true
theorem uN.f {B:Nat}{w:World}{u:aP}(h:uN u)(hf:gx B w u) :lP w u:=by
 obtain⟨b,cap',hv,hi,hc,hm,hl,hx⟩:=bj hf;injection hv with e1 _ e3;refine⟨h.k,h.p,h.m,h.t,?_,h.l,h.c⟩;rw[e1,e3];refine⟨rfl,hc,hm,h.z,?_⟩;rcases Nat.eq_zero_or_pos u.n.d.length with h0|h0
 ·exact .inl h0
 ·obtain⟨b',off,rfl,hlt⟩:=hi.plain h0;exact .inr ⟨b',off,rfl,hlt,fun i hi'=>hi.get i hi'⟩
theorem oJ {S:Nat->Prop}{w w':World}{base n size:Nat}{e:TypeId}{v:Value}{xs:List Value}(h:w.ownsRow base e size v n xs)(ho:aZ S w w')(hb:∀k,v.ownBlock=some k->¬S k) :w'.ownsRow base e size v n xs:=by
 obtain⟨h1,h2⟩:=h;refine⟨h1,h2.imp id ?_⟩;rintro⟨g,cap,cur,hv,hbg,hg,r⟩;have hlt:g<w.heap.size:= (Array.getElem?_eq_some_iff.1 hg).1;exact⟨g,cap,cur,hv,hbg,(ho.block g hlt (hb g (by rw[hv];rfl))).trans hg,r⟩
theorem lK {w:World}{base n cap size:Nat}{e:TypeId}{a:Option Addr}{xs:List Value}(_h:w.ownsRow base e size (.slice a n cap) n xs){S:Nat->Prop}(hS:∀x,a=some x->S x.block) :∀k,(Value.slice a n cap).ownBlock=some k->S k:=fun k hk=>by
 cases a with
 |none=>simp[Value.ownBlock]at hk
 |some x=>
  have e:x.block=k:=by simpa [Value.ownBlock]using hk
  exact e▸hS x rfl
structure PB (w:World) (g:Nat) (a:Option Addr) (cap gd gf Nd Nf:Nat) (Fd Ff:Value->Option Value) (us:List aP) (A:List Mb) :Prop where
 o:an w g 153 [.slice a A.length cap,.map (some gd),.map (some gf)]
 r:w.ownsRow 0 77 6 (.slice a A.length cap) A.length (bc us)
 e:ax us=bI A
 s:∀u∈us,uN u/\gx 0 w u
 md:dG w gd .string Nd Fd
 fd:Fm Fd A 0 (fun _=> .bool true)
 mf:dG w gf .string Nf Ff
 ff:Fm Ff A 1 (fun r=> .int .i64 (r:Int))
 ne:gd≠gf
 sM:Gd A
structure DG (S:Nat->Prop) (g:Nat) (a:Option Addr) (gd gf:Nat) (us:List aP) :Prop where
 g:S g
 d:S gd
 f:S gf
 r:∀x,a=some x->S x.block
 u:∀u∈us,∀x,u.a=some x->S x.block
def nR (w:World)(S:Nat->Prop)(g:Nat)(A:List Mb) :Prop:=
 ∃a cap gd gf Nd Nf Fd Ff us,PB w g a cap gd gf Nd Nf Fd Ff us A/\DG S g a gd gf us/\∀k,S k->k<w.heap.size
theorem DG.mono {S T:Nat->Prop}{g gd gf:Nat}{a:Option Addr}{us:List aP}(h:DG S g a gd gf us)(hST:∀k,S k->T k) :DG T g a gd gf us:=
 ⟨hST _ h.g,hST _ h.d,hST _ h.f,fun x hx=>hST _ (h.r x hx),fun u hu x hx=>hST _ (h.u u hu x hx)⟩
theorem PB.only {S T:Nat->Prop}{w w':World}{g cap gd gf Nd Nf:Nat}{a:Option Addr}{Fd Ff:Value->Option Value}{us:List aP}{A:List Mb}(h:PB w g a cap gd gf Nd Nf Fd Ff us A)(hi:DG S g a gd gf us)(ho:aZ T w w')(hd:∀k,S k->¬T k) :PB w' g a cap gd gf Nd Nf Fd Ff us A:=
 ⟨h.o.only ho (hd _ hi.g),oJ h.r ho fun k hk=>hd k (lK h.r hi.r k hk),h.e,fun u hu=>⟨(h.s u hu).1,oJ (h.s u hu).2 ho fun k hk=>hd k (lK (h.s u hu).2 (hi.u u hu) k hk)⟩,h.md.block (ho.block _ h.md.lt (hd _ hi.d)),h.fd,h.mf.block (ho.block _ h.mf.lt (hd _ hi.f)),h.ff,h.ne,h.sM⟩
theorem nR.only {S T:Nat->Prop}{w w':World}{g:Nat}{A:List Mb}(h:nR w S g A)(ho:aZ T w w')(hd:∀k,S k->¬T k) :nR w' S g A:=by
 obtain⟨a,cap,gd,gf,Nd,Nf,Fd,Ff,us,h1,h2,h3⟩:=h;exact⟨a,cap,gd,gf,Nd,Nf,Fd,Ff,us,h1.only h2 ho hd,h2,fun k hk=>Nat.lt_of_lt_of_le (h3 k hk) ho.size⟩
theorem nR.below {S:Nat->Prop}{w w':World}{g:Nat}{A:List Mb}(h:nR w S g A)(hb:Below w.heap.size w w') :nR w' S g A:=
 h.only (aZ.aW (S:=fun _=>False) hb aj) fun _ _ h=>h
theorem nR.lt {S:Nat->Prop}{w:World}{g:Nat}{A:List Mb}(h:nR w S g A) :∀k,S k->k<w.heap.size:=by
 obtain⟨a,cap,gd,gf,Nd,Nf,Fd,Ff,us,h1,h2,h3⟩:=h;exact h3
theorem PB.len {w:World}{g cap gd gf Nd Nf:Nat}{a:Option Addr}{Fd Ff:Value->Option Value}{us:List aP}{A:List Mb}(h:PB w g a cap gd gf Nd Nf Fd Ff us A) :us.length=A.length:=by
 rw[<- aV,h.e,eC]
theorem PB.at_ {w:World}{g cap gd gf Nd Nf:Nat}{a:Option Addr}{Fd Ff:Value->Option Value}{us:List aP}{A:List Mb}(h:PB w g a cap gd gf Nd Nf Fd Ff us A){i:Nat}(hi:i<A.length) :
 ∃b u,a=some ⟨b,0,none⟩/\b<w.heap.size/\us[i]? =some u/\u.n=fA A i/\uN u/\gx 0 w u/\bY w b 0 us:=by
 have hl:i<us.length:=by rw[h.len];exact hi
 have hu:us[i]? =some us[i] :=List.getElem?_eq_getElem hl;obtain⟨b,c,e,_,_,_,hb,hat,_⟩:=pS h.r (by omega);injection e with e1 _ _;subst e1;have hn: (ax us)[i]? = (bI A)[i]? :=by rw[h.e]
 rw[eU hu]at hn;unfold bI at hn;rw[List.getElem?_map,List.getElem?_range hi]at hn;have hs:=h.s _ (List.getElem_mem hl);exact⟨b,_,rfl,hb,hu,Option.some.inj hn,hs.1,hs.2,hat⟩
theorem nR.nil {w:World}{S:Nat->Prop}{g gd gf:Nat}(ho:an w g 153 [.slice none 0 0,.map (some gd),.map (some gf)])(hd:dG w gd .string 0 fun _=>none)(hf:dG w gf .string 0 fun _=>none)(ne:gd≠gf)(h1:S g)(h2:S gd)(h3:S gf)(hS:∀k,S k->k<w.heap.size) :nR w S g [] :=
 ⟨none,0,gd,gf,0,0,_,_,[],⟨ho,⟨rfl,.inl ⟨rfl,rfl⟩⟩,rfl,(fun _ h=>by cases h),hd,Fm.nil 0 _,hf,Fm.nil 1 _,ne,Dc⟩,⟨h1,h2,h3,(fun _ h=>by cases h),fun _ h=>by cases h⟩,hS⟩
theorem pM (w:World) :Calls Tryz.prog 36 #[] w fun e w'=>∃S g,e= .returned (.pointer (some ⟨g,0,none⟩))/\nR w' S g []/\ (∀k,S k->w.heap.size<=k)/\Below w.heap.size w w':=by
 go_enter Tryz.func36,Tryz.ntmps36;go_wp2_with (first| (have q1:=M1.out;clear q1;refine bo rfl _ rfl .string ?_;intro w2 m2 b2;have M2:=aa m2;have M3:=aa (M1.out.below b2 M1.out.lt);have B2:=aa (ar B1.out b2);have L2:=aa M1.out.lt;clear m2 b2 M1) | (refine bo rfl _ rfl .string ?_;intro w1 m1 b1;have M1:=aa m1;have B1:=aa b1;clear m1 b1) | (refine af rfl 153 _ rfl [.slice none 0 0,.map (some w.heap.size),.map (some w1.heap.size)] rfl ?_;intro w4 g4 b4;have G4:=aa g4;have M4:=aa (M2.out.below b4 M2.out.lt);have M5:=aa (M3.out.below b4 M3.out.lt);have B4:=aa (ar B2.out b4);clear g4 b4));go_ret;refine⟨fun k=>w.heap.size<=k/\k<w4.heap.size,_,rfl,nR.nil G4.out M5.out M4.out (Nat.ne_of_lt L2.out) ⟨B2.out.size,G4.out.lt⟩ ⟨aj,M5.out.lt⟩ ⟨B1.out.size,M4.out.lt⟩ fun k h=>h.2,fun k h=>h.1,B4.out⟩
end Reb
namespace Tre
open Go.RowKit Go.Proofs.YtcjagakckffkiaaGreatDoor.Fit Pnm
theorem qg {s t:ByteArray}(h:s=t) : (s.toList==t.toList) =true:=by rw[h];exact beq_self_eq_true _
theorem qi {s t:ByteArray}(h:¬s=t) : (s.toList==t.toList) =false:=cV h
def Cc (l:List Nd)(PS:ByteArray)(j:Nat) :Prop:=PS=emp\/∃i,i<j/\ (nd l i).k=0/\ (nd l i).p=PS
theorem mw {l:List Nd}{PS:ByteArray}{j:Nat} :Cc l PS (j+1)↔Cc l PS j\/ ((nd l j).k=0/\ (nd l j).p=PS) :=by
 unfold Cc;constructor
 ·rintro(h|⟨i,h1,h2⟩)
  ·exact .inl (.inl h)
  ·by_cases e:i=j
   ·subst e;exact .inr h2
   ·exact .inl (.inr ⟨i,by omega,h2⟩)
 ·rintro((h|⟨i,h1,h2⟩) |h)
  ·exact .inl h
  ·exact .inr ⟨i,by omega,h2⟩
  ·exact .inr ⟨j,by omega,h⟩
theorem Ao {l:List Nd}{x:Nd} :Cc l (strOfNums (dt (key x))) l.length↔qv l x:=by
 unfold Cc qv;rw[rV];constructor
 ·rintro(h|⟨i,hi,h1,h2⟩)
  ·exact .inl h
  ·exact .inr ⟨nd l i,cP hi,h1,jJ.mpr h2⟩
 ·rintro(h|⟨y,hy,h1,h2⟩)
  ·exact .inl h
  ·obtain⟨i,hi,rfl⟩:=mQ hy;exact .inr ⟨i,hi,h1,jJ.mp h2⟩
theorem yL (a:Option Addr)(n cap i:Nat)(ys:List aP)(w:World)(ha:bA w a n cap ys)(hi:i<n) :
 Calls Tryz.prog 115 #[.slice a n cap,.int .i64 i] w fun e w'=>e= .returned (.int .i64 (eR (ax ys) i))/\Below w.heap.size w w':=by
 obtain⟨b,off,y,rfl,hb,hy,hf,hat⟩:=ha.get i hi;have hn:n<=maxLen:=Nat.le_trans ha.c ha.m;have HN:Hid (ys.length=n) :=ha.n;have HS:=aa ha.s
 have HM:Hid (∀k,k<n->∃z,ys[k]? =some z/\nd (ax ys) k=z.n/\lP w z) :=fun k hk=>by
  obtain⟨_,_,z,_,_,hz,hfz,_⟩:=ha.get k hk;exact⟨z,hz,fS hz,hfz⟩
 have AT:Hid (∀k,k<n->∀z,ys[k]? =some z->∀q:World,Below w.heap.size w q->q.cell? ⟨b,off+k*6,none⟩=some (.int .i64 z.n.k)/\q.cell? ⟨b,off+k*6+1,none⟩=some (.string z.n.p)/\q.cell? ⟨b,off+k*6+2,none⟩=some (.int .i64 z.n.m)/\q.cell? ⟨b,off+k*6+4,none⟩=some (.slice z.a z.n.d.length z.cap)/\q.cell? ⟨b,off+k*6+5,none⟩=some (.int .i64 z.n.c)) :=fun k hk z hz q hq=>by
  obtain⟨z0,z1,z2,_,z4,z5⟩:= (hat.below hq hb).c hz;exact⟨z0,z1,z2,z4,z5⟩
 have EY:Hid (nd (ax ys) i=y.n) :=fS hy;have FY:=aa hf;obtain⟨y0,y1,y2,y4,y5⟩:=AT.out i hi y hy w au;obtain⟨R,hR⟩:=named (eR (ax ys) i);obtain⟨T1,T2,T3,T4⟩:=zr (l:=ax ys) (i:=i) hR.out;have TG:=aa (And.intro T1 (And.intro T2 (And.intro T3 T4)));have HPS:Hid (y.n.p.size<=140737488355328) :=hf.p;have HFIND:=aa (uw (ys:=ys) (j:=i) (by rw[HN.out];exact hi));rw[<- hR.out];unfold maxLen at hn;clear ha hat hf hy hR T1 T2 T3 T4 hb;obtain⟨⟨k,p,m,t,d,c⟩,x,xc⟩:=y;have i1: (i:Int) <n:=by omega
 have PSZ:Hid (p.size<=140737488355328) :=HPS.out;go_enter Tryz.func115,Tryz.ntmps115;go_wp2_with fail;go_loopw [5] (fun v wr=>∃j:Nat,v= .int .i64 j/\j<=i/\ (∀q,q<j-> (nd (ax ys) q).p≠p)/\Below w.heap.size w wr) (fun v _=>i- (intOf v).toNat)
 case atStart=>exact⟨0,rfl,Nat.zero_le _,fun q hq=>absurd hq (Nat.not_lt_zero q),au⟩
 case round=>
  obtain⟨j,rfl,hj,hp,hB⟩:=hrel;have HP:=aa hp;have HB:=aa hB;clear hp hB;by_cases hji:j<i
  ·obtain⟨z,hz,ez,_⟩:=HM.out j (by omega);have HZ:=aa hz;have EZ:=aa ez;clear hz ez;have j1: (j:Int) <i:=by omega
   have j2: (j:Int) <n:=by omega
   have zq:∀q:Of (fun w'=>Below w.heap.size w w'),q.w.cell? ⟨b,off+j*6+1,none⟩=some (.string z.n.p) :=fun q=> (AT.out j (by omega) z HZ.out q.w q.h).2.1
   have yq:∀q:Of (fun w'=>Below w.heap.size w w'),q.w.cell? ⟨b,off+i*6+1,none⟩=some (.string p) :=fun q=>by
    obtain⟨z',hz',ez',_⟩:=HM.out i hi;have:= (AT.out i hi z' hz' q.w q.h).2.1;rw[<- ez',EY.out]at this;exact this
   obtain⟨pz,hpz⟩:=named z.n.p;rw[<- hpz.out]at zq;have PZ:Hid ((nd (ax ys) j).p=pz) :=by show _=_;rw[EZ.out,hpz.out]
   clear hpz y0 y1 y2 y4 y5;by_cases he:pz=p
   ·have h1:=qg he;have HD:Hid (wh (ax ys) i) :=⟨j,hji,by rw[PZ.out,he,EY.out]⟩;have e:=TG.out.1 HD.out;subst e;clear he TG;go_wp2_with fail;refine aq (S:=fun w'=>Below w.heap.size w w') (by kernel_rfl) (by kernel_rfl) HB.out.drew ?_;intro hne'
    repeat (go_big_quiet_step (fail))
    refine wpQuiet_nil ?_;rintro wq ⟨q,rfl⟩;go_wp2;go_ret;exact⟨rfl,q.h⟩
   ·have h1:=qi he;have HE:=aa he;clear he;go_wp2_with fail;refine aq (S:=fun w'=>Below w.heap.size w w') (by kernel_rfl) (by kernel_rfl) HB.out.drew ?_;intro hne'
    repeat (go_big_quiet_step (fail))
    refine wpQuiet_nil ?_;rintro wq ⟨q,rfl⟩;go_wp2
    go_round
    case rel=>exact⟨j+1,by go_num,by omega,fun q' hq'=>by
     by_cases h:q'<j
     ·exact HP.out q' h
     ·obtain rfl:q'=j:=by omega
      rw[PZ.out];exact HE.out,q.h⟩
    case measure=>simp[intOf];omega
  ·obtain rfl:j=i:=by omega
   have ND:Hid (¬wh (ax ys) j) :=by
    rintro⟨q,q1,q2⟩;exact HP.out q q1 (by rw[q2,EY.out])
   clear hji y0 y1 y2 y4 y5;obtain⟨z,hz,ez,fz⟩:=HM.out j hi;have hzy:z.n=⟨k,p,m,t,d,c⟩:=by rw[<- ez,EY.out]
   have YY:Hid (∀q:World,Below w.heap.size w q->q.cell? ⟨b,off+j*6+1,none⟩=some (.string p)/\q.cell? ⟨b,off+j*6+2,none⟩=some (.int .i64 m)/\q.cell? ⟨b,off+j*6+4,none⟩=some (.slice z.a d.length z.cap)/\q.cell? ⟨b,off+j*6+5,none⟩=some (.int .i64 c)) :=fun q hq=>by
    obtain⟨_,z1,z2,z4,z5⟩:=AT.out j hi z hz q hq;rw[hzy]at z1 z2 z4 z5;exact⟨z1,z2,z4,z5⟩
   have YD:Hid (BytesIn w z.a d) :=by have:=fz.d.bytes;rw[hzy]at this;exact this
   clear hz ez fz hzy;have y1:= (YY.out wr HB.out).1;go_wp2_with fail;refine(rM p wr (Nat.le_trans PSZ.out (by decide))).mono ?_;rintro e w2 ⟨rfl,rfl⟩;obtain⟨PS,hPS⟩:=named (strOfNums (dt (ad p)));rw[<- hPS.out]
   have PAR:Hid (Cc (ax ys) PS n↔qv (ax ys) (nd (ax ys) j)) :=by
    show _↔_;rw[<- Ao,EY.out,hPS.out,aV,HN.out];exact Iff.rfl
   clear hPS y1
   obtain⟨E0,hE0⟩:∃E0:Bool,(PS.toList.isEmpty=E0)/\ (E0=true↔PS=emp) :=by
    by_cases h:PS=emp
    ·exact⟨true,by rw[h];rw[ByteArray.toList_eq];rfl,fun _=>h,fun _=>rfl⟩
    ·exact⟨false,cE h,(fun e=>absurd e (by decide)),fun e=>absurd e h⟩
   have e0:=hE0.1;have HE0:=aa hE0.2;clear hE0;go_wp2_with fail;go_loopw [7,8] (fun f v wq=>∃(q:Nat) (B:Bool),f= .bool B/\v= .int .i64 q/\q<=n/\ (B=true↔Cc (ax ys) PS q)/\Below w.heap.size w wq) (fun _ v _=>n- (intOf v).toNat)
   case atStart=>
    refine⟨0,E0,rfl,rfl,Nat.zero_le _,?_,HB.out⟩;rw[HE0.out];unfold Cc;constructor
    ·exact fun h=> .inl h
    ·rintro(h|⟨q,h,_⟩)
     ·exact h
     ·omega
   case round=>
    obtain⟨q,B,rfl,rfl,hq,hfd,hB⟩:=hrel;have HF:=aa hfd;have HQ:=aa hB;clear hfd hB;by_cases hqn:q<n
    ·obtain⟨z',hz,ez,_⟩:=HM.out q hqn;obtain⟨z0,z1,_,_,_⟩:=AT.out q hqn z' hz _ HQ.out;have q1: (q:Int) <n:=by omega
     obtain⟨kz,hkz⟩:=named z'.n.k;obtain⟨pz,hpz⟩:=named z'.n.p;rw[<- hkz.out]at z0;rw[<- hpz.out]at z1;have KZ:Hid ((nd (ax ys) q).k=kz/\ (nd (ax ys) q).p=pz) :=by show _/\_;rw[ez,hkz.out,hpz.out];exact⟨rfl,rfl⟩
     clear hkz hpz ez hz;by_cases k0:kz=0
     ·subst k0;by_cases he:pz=PS
      ·have h1:=qg he;have HE:=aa he;clear he;go_wp2_with fail
       go_round
       case rel=>exact⟨q+1,true,rfl,by go_num,by omega,⟨fun _=>mw.mpr (.inr ⟨KZ.out.1,by rw[KZ.out.2,HE.out]⟩),fun _=>rfl⟩,HQ.out⟩
       case measure=>simp[intOf];omega
      ·have h1:=qi he;have HE:=aa he;clear he;go_wp2_with fail
       go_round
       case rel=>exact⟨q+1,B,rfl,by go_num,by omega,by
        rw[mw,HF.out];constructor
        ·exact fun h=> .inl h
        ·rintro(h|⟨_,h⟩)
         ·exact h
         ·exact absurd (by rw[<- KZ.out.2,h]) HE.out,HQ.out⟩
       case measure=>simp[intOf];omega
     ·have h1: (kz==0) =false:=by simpa using k0
      have HE:=aa k0;clear k0;go_wp2_with fail
      go_round
      case rel=>exact⟨q+1,B,rfl,by go_num,by omega,by
       rw[mw,HF.out];constructor
       ·exact fun h=> .inl h
       ·rintro(h|⟨h,_⟩)
        ·exact h
        ·exact absurd (by rw[<- KZ.out.1,h]) HE.out,HQ.out⟩
      case measure=>simp[intOf];omega
    ·obtain rfl:q=n:=by omega
     have PB:Hid (B=true↔qv (ax ys) (nd (ax ys) j)) :=by show _↔_;rw[HF.out,PAR.out]
     clear HF PAR hqn
     cases B with
     |false=>
      have e:=TG.out.2.1 ND.out (fun h=>by have:=PB.out.mpr h;cases this);subst e;clear TG;go_wp2_with fail;go_ret;exact⟨rfl,HQ.out⟩
     |true=>
      have PY:=aa (PB.out.mp rfl);obtain⟨y1,y2,y4,y5⟩:=YY.out _ HQ.out;by_cases c0:c=0
      ·subst c0;have e:=TG.out.2.2.2 ND.out PY.out (fun⟨h,_⟩=>h (by rw[EY.out]));subst e;clear TG;go_wp2_with fail;go_ret;exact⟨rfl,HQ.out⟩
      ·have n0: (c==0) =false:=by simpa using c0
       have C0:=aa c0;clear c0;obtain⟨J0,j1,j2,j3⟩:=HFIND.out;rw[HN.out]at j2;obtain⟨J',j4,j5,j6,j7⟩:=sE j2;obtain rfl:J'=J0:=by injection j5 with _ h;omega
       have J7:Hid (∀k,k<J'-> (nd (ax ys) k).c≠c) :=fun k hk e=>j7 k hk (by unfold ck;rw[e,EY.out]);have J6:Hid ((nd (ax ys) J').c=c) :=by show _=_;unfold ck at j6;rw[EY.out]at j6;injection j6
       have OD:=aa (j3 (by rw[EY.out];exact C0.out));have JN:Hid (J'<=j) :=j1;clear j1 j2 j3 j4 j5 j6 j7 HFIND y1 y2 y4;go_wp2_with fail;go_loopw [9] (fun v wu=>∃u:Nat,v= .int .i64 u/\u<=J'/\Below w.heap.size w wu) (fun v _=>J'- (intOf v).toNat)
       case atStart=>exact⟨0,rfl,Nat.zero_le _,HQ.out⟩
       case round=>
        obtain⟨u,rfl,hu,hB⟩:=hrel;have HU:=aa hB;clear hB y5;have ujn:u<q:=by have:=JN.out;omega
        have u1: (u:Int) <q:=by omega
        obtain⟨z',hz,ez,fz'⟩:=HM.out u ujn;have ZC:=aa fun(q:World) (hq:Below w.heap.size w q) =>AT.out u ujn z' hz q hq;obtain⟨cz,hcz⟩:=named z'.n.c;have zq:∀q:Of (fun w'=>Below w.heap.size w w'),q.w.cell? ⟨b,off+u*6+5,none⟩=some (.int .i64 cz) :=fun q=>by rw[hcz.out];exact(ZC.out q.w q.h).2.2.2.2
        have yq:∀q:Of (fun w'=>Below w.heap.size w w'),q.w.cell? ⟨b,off+j*6+5,none⟩=some (.int .i64 c) :=fun q=> (YY.out q.w q.h).2.2.2;have CZ:Hid ((nd (ax ys) u).c=cz) :=by show _=_;rw[ez,hcz.out]
        have EZ:=aa ez;have FZ:=aa fz'.d.bytes;clear hcz hz ez fz';by_cases hc:cz=c
        ·subst hc
         obtain rfl:u=J':=by
          apply Decidable.byContradiction;intro hne;exact J7.out u (by omega) CZ.out
         have hcc: (cz !=cz) =false:=by simp
         clear CZ J7 J6;go_wp2_with fail;refine aq (S:=fun w'=>Below w.heap.size w w') (by kernel_rfl) (by kernel_rfl) HU.out.drew ?_;intro hne'
         repeat (go_big_quiet_step (fail))
         refine wpQuiet_nil ?_;rintro wq ⟨q,rfl⟩;have HQ2:=aa q.h;obtain⟨wx,hx⟩:=q;dsimp only;clear zq yq hne';have zm:∀q:Of (fun w'=>Below w.heap.size w w'),q.w.cell? ⟨b,off+u*6+2,none⟩=some (.int .i64 z'.n.m) :=fun q=> (ZC.out q.w q.h).2.2.1;have zd:∀q:Of (fun w'=>Below w.heap.size w w'),q.w.cell? ⟨b,off+u*6+4,none⟩=some (.slice z'.a z'.n.d.length z'.cap) :=fun q=> (ZC.out q.w q.h).2.2.2.1;have ym:∀q:Of (fun w'=>Below w.heap.size w w'),q.w.cell? ⟨b,off+j*6+2,none⟩=some (.int .i64 m) :=fun q=> (YY.out q.w q.h).2.1;have yd:∀q:Of (fun w'=>Below w.heap.size w w'),q.w.cell? ⟨b,off+j*6+4,none⟩=some (.slice z.a d.length z.cap) :=fun q=> (YY.out q.w q.h).2.2.1;have zs:∀q:Of (fun w'=>Below w.heap.size w w'),(convert 25 9 (.slice z'.a z'.n.d.length z'.cap)).run Tryz.prog q.w= .ok (.string (strOfNums z'.n.d)) q.w:=fun q=>aQ Tryz.underlying25 Tryz.underlying5 Tryz.underlying9 (FZ.out.below q.h) _ _ rfl;have ysx:∀q:Of (fun w'=>Below w.heap.size w w'),(convert 25 9 (.slice z.a d.length z.cap)).run Tryz.prog q.w= .ok (.string (strOfNums d)) q.w:=fun q=>aQ Tryz.underlying25 Tryz.underlying5 Tryz.underlying9 (YD.out.below q.h) _ _ rfl;have OD':Hid (wi (ax ys) (nd (ax ys) j)↔¬(m=z'.n.m/\d=z'.n.d)) :=by show _↔_;rw[OD.out,EY.out,EZ.out]
         have ZB:Hid (Bytes z'.n.d) :=FZ.out.bytes;have YB:Hid (Bytes d) :=YD.out.bytes;obtain⟨⟨zk,zp,zm',zt,zd',zc'⟩,za,zcap⟩:=z';dsimp only at zm zd zs;have OD2:Hid (wi (ax ys) (nd (ax ys) j)↔¬(m=zm'/\d=zd')) :=OD'.out;have ZB2:Hid (Bytes zd') :=ZB.out;obtain⟨Lz,hLz⟩:=named zd'.length;obtain⟨Ly,hLy⟩:=named d.length;obtain⟨Sz,hSz⟩:=named (strOfNums zd');obtain⟨Sy,hSy⟩:=named (strOfNums d);rw[<- hLz.out]at zd zs;rw[<- hLy.out]at yd ysx;rw[<- hSz.out]at zs;rw[<- hSy.out]at ysx
         have SE:Hid (d=zd'↔Sz=Sy) :=by
          show _↔_;rw[hSz.out,hSy.out];constructor
          ·rintro rfl;rfl
          ·intro h;have h1:=ak ZB2.out;rw[h,ak YB.out]at h1;exact h1
         clear hLz hLy hSz hSy OD OD' EZ ZC ZB ZB2 YB FZ;by_cases hm:zm'=m
         ·subst hm;by_cases hs:Sz=Sy
          ·have hs':=qg hs;have e:=TG.out.2.2.2 ND.out PY.out (fun h=>OD2.out.mp h ⟨rfl,SE.out.mpr hs⟩);subst e;clear TG hs OD2 SE;have hmm: (zm' !=zm') =false:=by simp
           go_wp2_with fail;refine aq (S:=fun w'=>Below w.heap.size w w') (by kernel_rfl) (by kernel_rfl) HQ2.out.drew ?_;intro hne'
           repeat (go_big_quiet_step (fail))
           refine wpQuiet_nil ?_;rintro wq ⟨q,rfl⟩;go_wp2;go_ret;exact⟨rfl,q.h⟩
          ·have hs':=qi hs;have e:=TG.out.2.2.1 ND.out PY.out (OD2.out.mpr fun h=>hs (SE.out.mp h.2));subst e;clear TG hs OD2 SE;have hmm: (zm' !=zm') =false:=by simp
           go_wp2_with fail;refine aq (S:=fun w'=>Below w.heap.size w w') (by kernel_rfl) (by kernel_rfl) HQ2.out.drew ?_;intro hne'
           repeat (go_big_quiet_step (fail))
           refine wpQuiet_nil ?_;rintro wq ⟨q,rfl⟩;go_wp2;go_ret;exact⟨rfl,q.h⟩
         ·have e:=TG.out.2.2.1 ND.out PY.out (OD2.out.mpr fun h=>hm h.1.symm);subst e;have hmm: (zm' !=m) =true:=by simpa using hm
          clear TG hm OD2 SE;go_wp2_with fail;refine aq (S:=fun w'=>Below w.heap.size w w') (by kernel_rfl) (by kernel_rfl) HQ2.out.drew ?_;intro hne'
          repeat (go_big_quiet_step (fail))
          refine wpQuiet_nil ?_;rintro wq ⟨q,rfl⟩;go_wp2;go_ret;exact⟨rfl,q.h⟩
        ·have hcc: (cz !=c) =true:=by simpa using hc
         have HC:=aa hc;clear hc FZ EZ;go_wp2_with fail;refine aq (S:=fun w'=>Below w.heap.size w w') (by kernel_rfl) (by kernel_rfl) HU.out.drew ?_;intro hne'
         repeat (go_big_quiet_step (fail))
         refine wpQuiet_nil ?_;rintro wq ⟨q,rfl⟩;have ne:Hid (u≠J') :=fun e=>HC.out (by rw[<- CZ.out,e,J6.out]);go_wp2
         go_round
         case rel=>exact⟨u+1,by go_num,by have:=ne.out;omega,q.h⟩
         case measure=>have:=ne.out;simp[intOf];omega
end Tre
namespace Reb
open Go.RowKit Go.Proofs.YtcjagakckffkiaaGreatDoor.Fit Pnm Tre Flt
structure Gs (w:World) (g:Nat) (a:Option Addr) (n cap:Nat) (ys:List dh) :Prop where
 o:an w g 98 [.slice a n cap]
 r:dF w a n cap ys
theorem Gr {z:Int}(h0:0<=z)(h1:z<=1000) : (Lit.int .i64 z).wf=true:=by
 have e1:IntKind.i64.min= -9223372036854775808:=by decide
 have e2:IntKind.i64.max=9223372036854775807:=by decide
 simp[Lit.wf];omega
theorem zC {z:Int}(h1:0<=z)(h2:z<=9223372036854775807) :IntKind.i64.wrap z=z:=by
 have hb:IntKind.i64.bits=64:=rfl;have hs:IntKind.i64.signed=true:=rfl;unfold IntKind.wrap;simp only[hb,hs,Bool.true_and];have e: (2:Int) ^64=18446744073709551616:=by decide
 have e': (2:Int) ^ (64- 1) =9223372036854775808:=by decide
 rw[e,e',Int.emod_eq_of_lt h1 (by omega),if_neg (by simp;omega)]
def fz (A:List Mb)(k:Int)(p:ByteArray) :Int:=match qU A k p with|some r=> (r:Int) |none=> -1
end Reb
namespace Reb
open Go.RowKit Go.MapKept Go.Proofs.YtcjagakckffkiaaGreatDoor.Fit Pnm Tre Flt
structure Nw (S:Nat->Prop) (w w':World) (A:List Mb) (y:Mb) (u:aP) :Prop where
 n:u.n=fA (A++ [y]) A.length
 s:uN u
 f:gx 0 w' u
 i:∀x,u.a=some x->S x.block\/ (w.heap.size<=x.block/\x.block<w'.heap.size)
section
variable {w:World} {g cap gd gf Nd Nf:Nat} {a:Option Addr} {Fd Ff:Value->Option Value} {us:List aP} {A:List Mb} {S:Nat->Prop}
end
end Reb
namespace Tre
open Go.RowKit
section
variable {P:Program} {w:World} {ops:Array Oper} {o:Oper} {a:Act} {Q:Exit->Act->World->Prop} {K:Act->World->Prop} {E:Prop}
end
theorem ky {w:World}{base base' n:Nat}{e:TypeId}{v:Value}{xs:List Value}(h:w.ownsRow base e 6 v n xs)(hb:base'<=base) :w.ownsRow base' e 6 v n xs:=by
 obtain⟨h1,h2⟩:=h;refine⟨h1,?_⟩;rcases h2 with h2|⟨g,cap,cur,hv,hg,r⟩
 ·exact Or.inl h2
 ·exact Or.inr ⟨g,cap,cur,hv,Nat.le_trans hb hg,r⟩
theorem cw.take {w:World}{a:Option Addr}{ys:List aP}(h:cw w a ys)(i:Nat) :cw w a (ys.take i) :=by
 rcases h with rfl|⟨b,off,h1,h2,h3⟩
 ·exact .inl (by simp)
 ·refine .inr ⟨b,off,h1,h2,fun k y hk=>h3 k y ?_⟩;rw[List.getElem?_take]at hk
  split at hk
  ·exact hk
  ·cases hk
theorem cw.drop {w:World}{b off:Nat}{ys:List aP}(h:cw w (some ⟨b,off,none⟩) ys)(i:Nat) :cw w (some ⟨b,off+i*6,none⟩) (ys.drop i) :=by
 rcases h with rfl|⟨b',off',h1,h2,h3⟩
 ·exact .inl (by simp)
 ·cases h1
  refine .inr ⟨b,_,rfl,h2,fun k y hk j v hv=>?_⟩;rw[List.getElem?_drop]at hk;have:=h3 (i+k) y hk j v hv;rw[show off+i*6+k*6+j=off+ (i+k) *6+j by omega];exact this
end Tre
end Go.Proofs.YtcjagakckffkiaaGreatDoor
