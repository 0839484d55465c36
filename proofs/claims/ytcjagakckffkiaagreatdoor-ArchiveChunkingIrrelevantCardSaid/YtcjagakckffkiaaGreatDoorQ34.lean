import Derived.Test.YtcjagakckffkiaaGreatDoorQ30
import Derived.Test.YtcjagakckffkiaaGreatDoorQ32
import Derived.Test.YtcjagakckffkiaaGreatDoorQ33
import Derived.Test.YtcjagakckffkiaaGreatDoorQ1
import Derived.Test.YtcjagakckffkiaaGreatDoorQ31
import Derived.Test.YtcjagakckffkiaaGreatDoorQ29
import Derived.Test.YtcjagakckffkiaaGreatDoorQ9
import Derived.Test.YtcjagakckffkiaaGreatDoorQ23
import Derived.Test.YtcjagakckffkiaaGreatDoorQ17
import Derived.Test.YtcjagakckffkiaaGreatDoorQ11
import Derived.Test.YtcjagakckffkiaaGreatDoorQ15
import Derived.Test.YtcjagakckffkiaaGreatDoorQ21
import Derived.Test.YtcjagakckffkiaaGreatDoorQ13
import Derived.Test.YtcjagakckffkiaaGreatDoorQ12
import Derived.Test.YtcjagakckffkiaaGreatDoorQ7
set_option maxHeartbeats 16000000
namespace Go.Proofs.YtcjagakckffkiaaGreatDoor.Reb
open Go.RowKit Go.MapKept Go.Proofs.YtcjagakckffkiaaGreatDoor.Fit Pnm Tre Flt
theorem my.gd {w:World}{S:Nat->Prop}{g:Nat}{A:List Mb}(h:my w S g A) :Gd A:=by
 obtain⟨_,_,_,_,_,_,_,_,_,h,_⟩:=h;exact h.ng
structure Rf (w:World) (S:Nat->Prop) (g:Nat) (A:List Mb) (a:Option Addr) (cap:Nat) (rs:List ft) :Prop where
 b:QW w g a A.length cap rs
 m:qz rs=A
 g:¬S g
 a:rs= []\/∀x,a=some x->¬S x.block
 y:∀y∈rs,y.n.d= []\/∀x,y.a=some x->¬S x.block
def QS (w:World)(S:Nat->Prop)(g:Nat)(A:List Mb) :Prop:=∃a cap rs,Rf w S g A a cap rs
theorem QS.off {w:World}{S:Nat->Prop}{g:Nat}{A:List Mb}(h:QS w S g A) :¬S g:=by
 obtain⟨a,cap,rs,h1,h2,h3,h4,h5⟩:=h;exact h3
end Go.Proofs.YtcjagakckffkiaaGreatDoor.Reb
namespace Go.Proofs.YtcjagakckffkiaaGreatDoor.Arc
open Go.Lib Go.RowKit Go.Proofs.YtcjagakckffkiaaGreatDoor.Fit bL Pnm Tre Flt dO Reb
def sL (R:RR)(e:Ending)(w':World) :Prop:=∃a n c zs,e= .returned (.tuple #[.slice a n c,.int .i64 R.p,.int .i64 R.e])/\br w' a n c zs/\aI zs=R.n
theorem sL.bad {w':World}(p:Nat)(x:Int) :sL ⟨[],p,x⟩ (.returned (.tuple #[.slice none 0 0,.int .i64 p,.int .i64 x])) w':=
 ⟨none,0,0,[],rfl,⟨rfl,ah,Nat.zero_le _,.inl rfl,fun _ h=>by cases h⟩,rfl⟩
theorem kO {lo hi:Nat}{w w':World}(h:Out lo hi w w') :aA (fun k=>lo<=k/\k<hi) w w':=⟨h.os,h.tape,h.output,h.size,fun k hk hj=>h.block k hk (by omega)⟩
theorem xW {g:Nat}{w w':World}(h:aA (fun k=>k=g) w w') :Out g (g+1) w w':=⟨h.os,h.tape,h.output,h.size,fun k hk hj=>h.block k hk (by omega)⟩
theorem Lf {e:dY}(h:dn e=0) :e.p.size<=65536/\e.t.size<=65536/\ (Lit.int .i64 e.k).wf=true/\ (Lit.int .i64 e.m).wf=true/\ (Lit.int .i64 e.s).wf=true:=by
 have ok:=dB.1 h;obtain⟨s0,s1,s2⟩:=ix h;have hp:= (iM.mp ok.path).1;rw[an]at hp;refine⟨hp,?_,Rd ok.k0 (by have:=ok.k4;omega),?_,?_⟩
 ·have ht:=ok.tg;unfold vO at ht
  split at ht
  ·unfold iC at ht
   split at ht
   ·cases ht
   ·omega
  ·split at ht
   ·have:= (iM.mp ht).1
    rwa [an]at this
   ·split at ht
    ·rename_i q;rw[q];decide
    ·cases ht
 ·have h0:=ok.m0;have h1:=ok.m1;simp[Lit.wf,IntKind.min,IntKind.max,IntKind.signed,IntKind.bits];omega
 ·simp[Lit.wf,IntKind.min,IntKind.max,IntKind.signed,IntKind.bits];omega
theorem Nl {e:dY}(h:dn e=0) :e.s<=140737488355328:=by
 obtain⟨_,_,s2⟩:=ix h;omega
theorem BM {w:World}{a:Option Addr}{cap:Nat}{zs:List Int}(h:eJ .u8 w a zs)(hc:zs.length<=cap)(hm:cap<=maxLen)(hz:∀z∈zs,(Lit.int .u8 z).wf=true) :aB .u8 w a zs.length cap zs:=by
 refine⟨rfl,hc,hm,hz,?_⟩;rcases h with h|⟨b,off,ha,hb,h⟩
 ·exact .inl (by rw[h];rfl)
 ·exact .inr ⟨b,off,ha,hb,h⟩
theorem JO {Z:List Int}{E:Int}{o:Nat}(hE:E=11\/E=4)(h: (du Z E o 0).e=18) : (du Z E o 0).s=0:=by
 obtain⟨hl,hz,_⟩:=zr hE h;have hn:= (fx (E:=E) hl).2.1;unfold du pg;rw[if_neg (by rw[hn];decide),if_pos hz]
theorem Mx {Z:List Int}{E:Int}{o:Nat}{s:Int}(hE:E=11\/E=4)(h:eO Z E o 0 s=0) :nP Z E o 0 s=0:=by
 by_cases hb:dm s
 ·rw[(lK hb).1]at h;cases h
 obtain⟨m,rfl⟩:∃m:Nat,s= (m:Int) :=⟨s.toNat,by unfold dm at hb;omega⟩;have hm:m<=1099511627776:=by unfold dm at hb;omega
 by_cases hok:dM Z o 0 (aZ m)
 ·by_cases hi:gx (bj Z o m) < (bj Z o m).length
  ·rw[(gM (E:=E) hm rfl hok hi).1]at h;cases h
  ·exact(jN (E:=E) hm rfl hok hi).2.2.2.2
 ·rw[(jM (E:=E) hm rfl hok).1]at h;have:=ry hE hok;by_cases h4:jY Z E o 0 (aZ m) =4
  ·rw[if_pos h4]at h;cases h
  ·rw[if_neg h4]at h;exact absurd h this
theorem vh {Z:List Int}{o O:Nat}{x:dY}(hc:dn x=0)(h: (Z.drop o).take (O- o) =eW x) :o+512<=O:=by
 have h1:= (kL hc).1;have h2:=congrArg List.length h;rw[List.length_take]at h2;omega
def Nx (Z:List Int)(E:Int)(A:List Mb)(o:Nat)(A':List Mb)(o':Nat) :Prop:=
 ∃d,du Z E o 0=d/\d.e=0/\dn d.x=0/\iu A d.x=0/\ (Z.drop o).take (d.o- o) =eW d.x/\d.o<=Z.length/\ ((d.x.k=1/\eO Z E d.o 0 d.x.s=0/\A'=A++ [⟨d.x,gw Z d.o 0 d.x.s⟩]/\o'=jQ Z d.o 0 d.x.s)\/ (d.x.k≠1/\A'=A++ [⟨d.x,[]⟩]/\o'=d.o))
structure Inv (Z:List Int) (E:Int) (I:List Mb->Nat->Prop) :Prop where
 z:I [] 0
 n:∀{A o},I A o->o<=Z.length->A.length<=1000
 s:∀{A o A' o'},I A o->Nx Z E A o A' o'->I A' o'
theorem iT {Z:List Int}{E:Int}(hE:E=11\/E=4)(h:Z.length<=512000) :Inv Z E (fun A o=>A.length*512<=o) where
 z:=ah
 n:=fun h1 h2=>by omega
 s:=by
  rintro A o A' o' hi ⟨d,-,-,hck,-,hen,hle,hk⟩;have h0: (A.length+1) *512<=o+512:=by rw[Nat.succ_mul];exact Nat.add_le_add_right hi 512
  have h1:=Nat.le_trans h0 (vh hck hen);rcases hk with⟨-,hr,rfl,rfl⟩|⟨-,rfl,rfl⟩
  ·show(A++ [_]).length*512<=_;rw[List.length_append,List.length_singleton];exact Nat.le_trans h1 (mU hE hle hr).2.1
  ·show(A++ [_]).length*512<=_;rw[List.length_append,List.length_singleton];exact h1
end Go.Proofs.YtcjagakckffkiaaGreatDoor.Arc
namespace Go.Proofs.YtcjagakckffkiaaGreatDoor.Arc
open Go.Lib Go.RowKit Go.Proofs.YtcjagakckffkiaaGreatDoor.Fit bL Pnm Tre Flt dO Reb
theorem nv {Z R:List Int}{E:Int}{o:Nat}(h:Z.drop o=ao 512++R)(ho:o<=Z.length) :du Z E o 0=⟨ez,o,18,o+512,0⟩:=by
 have hl:o+512<=Z.length:=by
  have:=congrArg List.length h;rw[List.length_drop,List.length_append,al]at this;omega
 have ht: (Z.drop o).take 512=ao 512:=by rw[h,List.take_append_of_le_length (by rw[al];omega),List.take_of_length_le (by rw[al];omega)]
 obtain⟨-,n2,-⟩:=fx (E:=E) hl;unfold du;rw[if_neg (by rw[n2];decide),ht];unfold pg;rw[if_pos (rl 512)]
theorem Gd.PO {A:List Mb}(hA:Gd A){i:Nat}{x:Mb}(hx:A[i]? =some x) :iu (A.take i) x.e=0/\dn x.e=0/\ (x.d.length:Int) =x.e.s:=by
 obtain⟨hi,rfl⟩:=List.getElem?_eq_some_iff.mp hx;have h:=hA i hi;rw[js hi]at h;obtain⟨h1,h2⟩:=fU.mp h;exact⟨h1,(fc.mp h1).1,h2⟩
theorem gO {x:Mb} : (kR x).length= (eW x.e).length+ (x.d.length+bU x.d.length) :=by unfold kR;rw[List.length_append,List.length_append,al]
theorem zN {A:List Mb}(hA:Gd A){i:Nat}{x:Mb}(hx:A[i]? =some x){Z R:List Int}{E:Int}{f o:Nat}(hZ:Z.drop o=kR x++R)(ho:o<=Z.length) :
 jW Z E (f+1) (A.take i) o=jW Z E f (A.take (i+1)) (o+ (kR x).length) :=by
 obtain⟨h1,h2,h3⟩:=Gd.PO hA hx;obtain⟨-,s0,s1⟩:=ix h2
 have hl:Z.length=o+ ((kR x).length+R.length) :=by
  have:=congrArg List.length hZ;rw[List.length_drop,List.length_append]at this;omega
 have hZ1:Z.drop o=eW x.e++ (x.d++ao (bU x.d.length) ++R) :=by rw[hZ];unfold kR;rw[List.append_assoc]
 have hd:=uV (E:=E) h2 hZ1 ho;rw[fa hx];have ml:= @gO x;by_cases hk:x.e.k=1
 ·have hZ2:=kV hZ1 rfl;obtain⟨r1,-,r3,r4,-⟩:=pZ (E:=E) hZ2 rfl (by omega) (by omega);rw[h3]at r1 r3 r4;rw[pj hd rfl h1 hk r1,r3,r4];rw[show o+ (eW x.e).length+ (x.d.length+bU x.d.length) =o+ (kR x).length by omega]
 ·rw[pn hd rfl h1 hk];have d0:x.d= [] :=List.length_eq_zero_iff.mp (by have:= (ix h2).1 hk;omega);obtain⟨e,dd⟩:=x;subst d0;rw[show(kR ⟨e,[]⟩).length= (eW e).length by rw[gO];show(eW e).length+ (0+bU 0) =_;rw[show bU 0=0 from rfl];omega]
theorem jl {A:List Mb}{i:Nat}{x:Mb}(h:A[i]? =some x) : (cq (A.take (i+1))).length= (cq (A.take i)).length+ (kR x).length:=by rw[fa h,gN,List.length_append]
theorem rT {A:List Mb}{i:Nat}{x:Mb}(h:A[i]? =some x)(R:List Int) : (cq A++R).drop (cq (A.take i)).length=kR x++ (cq (A.drop (i+1)) ++R) :=by
 conv=>lhs;rw[yj h]
 rw[List.append_assoc,List.drop_left,List.append_assoc]
theorem vE (x:Mb)(h:dn x.e=0) :512<= (kR x).length:=by
 have:= (kL h).1;rw[gO];omega
theorem vj {A:List Mb}(hA:Gd A){Z M:List Int}(hZ:Z=cy A++M) :∀f i,i<=A.length->Z.length< (cq (A.take i)).length+f->jW Z 4 f (A.take i) (cq (A.take i)).length=if M= []then⟨canon (aV A),Z.length,0⟩else⟨[],(cy A).length,18⟩
 |0,i,hi,hf=>by
  exfalso;have h1:cq A=cq (A.take i) ++cq (A.drop i) :=by rw[<- vb,List.take_append_drop]
  have h2:=congrArg List.length hZ;unfold cy at h2;rw[h1]at h2;simp only[List.length_append]at h2;omega
 |f+1,i,hi,hf=>by
  have hZ':Z=cq A++ (ao 1024++M) :=by rw[hZ];unfold cy;rw[List.append_assoc]
  have hL:Z.length= (cq A).length+ (1024+M.length) :=by rw[hZ',List.length_append,List.length_append,al]
  rcases Nat.lt_or_eq_of_le hi with hlt|rfl
  ·have hx:A[i]? =some A[i] :=List.getElem?_eq_getElem hlt;have hdr:Z.drop (cq (A.take i)).length=kR A[i] ++ (cq (A.drop (i+1)) ++ (ao 1024++M)) :=by rw[hZ'];exact rT hx _
   have hlt2:=jl hx;have ho: (cq (A.take i)).length<=Z.length:=by rw[hL,yj hx,List.length_append];omega
   rw[zN hA hx hdr ho,<- hlt2];exact vj hA hZ f (i+1) hlt (by have:=vE A[i] (Gd.PO hA hx).2.1;omega)
  ·rw[List.take_length];have hdr:Z.drop (cq A).length=ao 512++ (ao 512++M) :=by rw[hZ',List.drop_left,show ao 1024=ao 512++ao 512 from dK 512 512,List.append_assoc]
   have ho: (cq A).length<=Z.length:=by omega
   have hd:=nv (E:=4) hdr ho;rw[mG hd rfl];show jX Z 4 A ((cq A).length+512) =_;have hl: (cq A).length+512+512<=Z.length:=by omega
   have hd2:=kV hdr (al 512);have ht: (Z.drop ((cq A).length+512)).take 512=ao 512:=by rw[hd2,List.take_append_of_le_length (by rw[al];omega),List.take_of_length_le (by rw[al];omega)]
   obtain⟨-,n2,-⟩:=fx (E:=4) hl;unfold jX;rw[if_neg (by rw[n2];decide),ht,if_neg (fun c=>c (rl 512))];have hal: (cy A).length= (cq A).length+512+512:=by unfold cy;rw[List.length_append,al]
   by_cases hM:M= []
   ·rw[if_pos hM];have hz:Z.length= (cq A).length+512+512:=by rw[hL,hM];rfl
    have n4:bM Z 4 ((cq A).length+512+512) 0=4:=by
     rw[(eR (E:=4) (by omega:¬(cq A).length+512+512+512<=Z.length)).2.1,if_neg (by omega)]
    rw[if_pos n4,hz]
   ·rw[if_neg hM];have hm:0<M.length:=List.length_pos_iff.mpr hM
    have n4:bM Z 4 ((cq A).length+512+512) 0=0\/bM Z 4 ((cq A).length+512+512) 0=5:=by
     by_cases hc: (cq A).length+512+512+512<=Z.length
     ·exact .inl (fx hc).2.1
     ·exact .inr (by rw[(eR (E:=4) hc).2.1,if_pos ⟨rfl,by omega⟩])
    rw[if_neg (by rcases n4 with q|q<;>rw[q] <;>decide),if_neg (by rcases n4 with q|q<;>rw[q] <;>decide),hal]
theorem Ol {A:List Mb}(hA:Gd A) :pO (cy A) 4=⟨canon (aV A),(cy A).length,0⟩:=by
 have:=vj hA (M:= []) (Z:=cy A) (by simp) ((cy A).length+1) 0 (Nat.zero_le _) (by show _<0+_;omega);rw[if_pos rfl]at this;exact this
theorem zA {A:List Mb}(hA:Gd A){M:List Int}(hM:M≠ []) :pO (cy A++M) 4=⟨[],(cy A).length,18⟩:=by
 have:=vj hA (M:=M) (Z:=cy A++M) rfl ((cy A++M).length+1) 0 (Nat.zero_le _) (by show _<0+_;omega);rw[if_neg hM]at this;exact this
end Go.Proofs.YtcjagakckffkiaaGreatDoor.Arc
namespace Go.Proofs.YtcjagakckffkiaaGreatDoor.Arc
open Go.Lib Go.RowKit Go.Proofs.YtcjagakckffkiaaGreatDoor.Fit bL Pnm Tre Flt dO Reb
def jS (x:Mb) :Prop:=dn x.e=0/\ (x.d.length:Int) =x.e.s
theorem qY {x:Mb}(hx:jS x){W R:List Int}(h:W=kR x++R) :du W 4 0 0=⟨x.e,0,0,(eW x.e).length,0⟩:=by
 have h1:W.drop 0=eW x.e++ ((x.d++ao (bU x.d.length)) ++R) :=by rw[List.drop_zero,h];unfold kR;rw[List.append_assoc]
 have:=uV (E:=4) hx.1 h1 (Nat.zero_le _)
 rwa [Nat.zero_add]at this
theorem gP (x:Mb)(A:List Mb) :cq (x::A) =kR x++cq A:=by unfold cq;rw[List.flatMap_cons]
theorem Ee:∀{A A0:List Mb} {X Y:List Int},(∀x∈A,jS x)-> (∀x∈A0,jS x)->cq A++X=cq A0++ (ao 512++Y)->A.length<=A0.length
 | [],_,_,_,_,_,_=>Nat.zero_le _
 |x::A,[],X,Y,hA,_,h=>by
  exfalso;have hx:=hA x List.mem_cons_self;rw[gP,List.append_assoc]at h;have h1:=qY hx rfl (R:=cq A++X);rw[h]at h1;have h2:=nv (E:=4) (Z:=cq [] ++ (ao 512++Y)) (o:=0) (R:=Y) rfl (Nat.zero_le _);rw[h1]at h2
  cases congrArg DR.e h2
 |x::A,y::B,X,Y,hA,hB,h=>by
  have hx:=hA x List.mem_cons_self;have hy:=hB y List.mem_cons_self;rw[gP,gP,List.append_assoc,List.append_assoc]at h;have h1:=qY hx rfl (R:=cq A++X);rw[h,qY hy rfl]at h1;have he:y.e=x.e:=congrArg DR.x h1;have hd:x.d.length=y.d.length:=by have h3:=hx.2;have h4:=hy.2;rw[he]at h4;omega
  have hl: (kR x).length= (kR y).length:=by rw[gO,gO,he,hd]
  obtain⟨-,ht⟩:=List.append_inj h hl;exact Nat.succ_le_succ (Ee (fun z hz=>hA z (List.mem_cons_of_mem _ hz)) (fun z hz=>hB z (List.mem_cons_of_mem _ hz)) ht)
theorem uw {A0:List Mb}(h0:∀x∈A0,jS x)(hn:A0.length<=1000){Z M:List Int}{k:Nat}(hZ:Z= (cy A0++M).take k) :Inv Z 4 (fun A o=>Z.take o=cq A/\∀x∈A,jS x) where
 z:=⟨rfl,fun x hx=>by cases hx⟩
 n:=by
  rintro A o ⟨h1,h2⟩-;have e1:cy A0++M=Z++ (cy A0++M).drop k:=by rw[hZ,List.take_append_drop]
  have e2:cy A0++M=cq A0++ (ao 512++ (ao 512++M)) :=by unfold cy;rw[show ao 1024=ao 512++ao 512 from dK 512 512,List.append_assoc,List.append_assoc]
  have e3:Z=cq A++Z.drop o:=by rw[<- h1,List.take_append_drop]
  rw[e2,e3,List.append_assoc]at e1;exact Nat.le_trans (Ee h2 h0 e1.symm) hn
 s:=by
  rintro A o A' o' ⟨h1,h2⟩ ⟨d,-,-,hck,hc,hen,hle,hk⟩;have hlt:=vh hck hen;have hto:=lg h1 (Nat.le_trans (Nat.le_add_right _ _) hlt);rw[hen]at hto;rcases hk with⟨hk,hr,rfl,rfl⟩|⟨hk,rfl,rfl⟩
  ·obtain⟨r1,r2,r3,r4,r5⟩:=mU (.inr rfl) hle hr;refine⟨?_,fun x hx=>?_⟩
   ·have:=lg hto r2;rw[r5]at this;rw[this,gN,List.append_assoc];rfl
   ·rcases List.mem_append.1 hx with hx|hx
    ·exact h2 x hx
    ·rw[List.mem_singleton.1 hx];exact⟨hck,r4⟩
  ·obtain⟨a1,a2⟩:=Dm hc hk;refine⟨?_,fun x hx=>?_⟩
   ·rw[hto,gN,a2]
   ·rcases List.mem_append.1 hx with hx|hx
    ·exact h2 x hx
    ·rw[List.mem_singleton.1 hx];exact⟨hck,(fU.mp a1).2⟩
theorem Gd.Pf {A:List Mb}(h:Gd A) :∀x∈A,jS x:=fun x hx=>by
 obtain⟨i,hi,rfl⟩:=List.getElem_of_mem hx;obtain⟨-,h1,h2⟩:=Gd.PO h (List.getElem?_eq_getElem hi);exact⟨h1,h2⟩
end Go.Proofs.YtcjagakckffkiaaGreatDoor.Arc
namespace Go.Proofs.YtcjagakckffkiaaGreatDoor
open Go.RowKit
theorem lY {P:Program}{w:World}{ops:Array Oper}{rest:List Oper}{o:Oper}{a:Act}{Q:Exit->Act->World->Prop}(hgd:o.guard=none)(s x:Operand)(t:TypeId)
 (ho:o.op= .call {callee:= .builtin .append,args:= #[s,x],argTypes:= #[t,t]})
 (e:TypeId)(i0:TypeInfo)(hT:P.underlying t=some (.slice e))(hI:Hid (P.info? e=some i0/\i0.zero=some (.int .u8 0)/\i0.size=1/\i0.bytes=1))
 (g n:Nat)(zs:List Int)(hs:a.eval s= .slice (some ⟨g,0,none⟩) n n)(hz:aT w g 0 zs)(hn:zs.length=n)
 (b:Option Addr)(m c:Nat)(ys:List Int)(hx:a.eval x= .slice b m c)(hy:BytesIn w b ys)(hl:ys.length=m)(hm:0<m)(h47:n+m<=140737488355328)
 (K:∀v' w',w'.ownsRow w.heap.size e 1 v' (n+m) ((zs++ys).map (.int .u8))->Below w.heap.size w w'->wpList P ops Q rest (a.put o.dst v') w') :wpList P ops Q (o::rest) a w:=by
 rcases hy with hy|⟨b',off,rfl,_,hy⟩
 ·rw[hy]at hl;rw[<- hl]at hm;cases hm
 obtain⟨hi,hz0,hsz,hby⟩:=hI.out
 have hr:=run_append_grow (P:=P) w t o.type e i0 (.int .u8 0) hT hi hz0 ⟨g,0,none⟩ n n (zs.map (Value.int .u8)) (by rw[List.length_map,hn,hsz,Nat.mul_one]) hz.news ⟨b',off,none⟩ m c (ys.map (Value.int .u8)) (by rw[List.length_map,hl,hsz,Nat.mul_one]) hy.news (by omega) (by omega)
  (growslice_fits (by omega) (by rw[hby];omega))
 have hge:=grownCap_ge w (n+m) n e;have hcm:grownCap w (n+m) n e<=maxLen:=grownCap_le_maxLen w (n+m) n e (by unfold maxLen;omega);have hlen: ((zs.map (Value.int .u8)) ++ (ys.map (Value.int .u8))).length= (n+m) *1:=by rw[List.length_append,List.length_map,List.length_map];omega
 refine wpList_plain hgd fun K' hK=>?_;unfold Oper.wp;simp[execOp,ho,resolve,invoke,builtin,hs,hx,hr,Result.andThen];refine hK _ _ (K _ _ ⟨by rw[List.map_append];exact hlen,.inr ⟨w.heap.size,_,_,rfl,ah,heap_alloc_new w.drew _,hge,hcm,?_,?_⟩⟩ (aF.drew.alloc ah _))
 ·simp only[Array.size_append,List.size_toArray,size_zeroCells,Value.cells];simp[hn,hl];omega
 ·simp only[Array.toList_append,List.append_assoc];rw[<- List.append_assoc,<- hlen,List.map_append];exact List.take_left
end Go.Proofs.YtcjagakckffkiaaGreatDoor
namespace Go.Proofs.YtcjagakckffkiaaGreatDoor.dO
open Go.RowKit Go.Proofs.YtcjagakckffkiaaGreatDoor.Fit bL Pnm
theorem Aj {T:Int}{nm pf lk:ByteArray}{md sz:Int}(w:World)(hn:nm.size<=maxLen)(hp:pf.size<=maxLen)(hk:lk.size<=maxLen)(h:Ust.mA T nm pf lk md sz=0) :
 Calls Tryz.prog 100 #[.agg (Ust.bA T nm pf lk md sz).toArray] w fun e w'=>∃b,e= .returned (.tuple #[.slice (some ⟨b,0,none⟩) 512 512,.int .i64 0])/\aT w' b 0 (Ust.dL T nm pf lk md sz)/\w.heap.size<=b/\b<w'.heap.size/\Below w.heap.size w w':=by
 have hk1:=Ust.jr (Ust.dx.1 h).1
 refine(Ust.vP (Ust.DM T nm pf lk md sz) (Ust.cont T nm pf lk md sz) (.int .u8 T) (.string nm) (.string pf) (.string lk) (.int .i64 md) (.int .i64 sz) w rfl (fun _ _=>rfl) (fun j hj=>Ust.kE h hj) (fun j hj=>Ust.kG h hj)
  (fun w=>by have:=Ust.eG T nm pf lk md sz w hn hp hk hk1;rw[h]at this;exact this) (fun j hj w=>Ust.Al T nm pf lk md sz h hj w)).mono ?_
 rintro e w' ⟨b,rfl,h1,h2,h3⟩;rw[Ust.po h]at h1;exact⟨b,rfl,h1.row,h2,h1.lt,h3⟩
def kg (zs:List Int)(E:Int)(w:World)(e:Ending)(w':World) :Prop:=
 ∃b n c,e= .returned (.tuple #[.slice b n c,.int .i64 E])/\zs.length=n/\n<=c/\c<=maxLen/\BytesIn w' b zs/\ (∀x,b=some x->w.heap.size<=x.block)/\Below w.heap.size w w'
theorem kg.nil {E:Int}{w w':World}(h:Below w.heap.size w w') :kg [] E w (.returned (.tuple #[.slice none 0 0,.int .i64 E])) w':=
 ⟨none,0,0,rfl,rfl,ah,Nat.zero_le _,.inl rfl,fun x hx=> (by cases hx),h⟩
theorem kg.own {zs:List Int}{E:Int}{w w':World}{base n:Nat}{e:TypeId}{v:Value}(h:w'.ownsRow base e 1 v n (zs.map (.int .u8)))(hz:Bytes zs)(hB:w.heap.size<=base)(hb:Below w.heap.size w w') :kg zs E w (.returned (.tuple #[v,.int .i64 E])) w':=by
 obtain⟨b,c,rfl,hi,hc,hm,hl,hx⟩:=bl h;exact⟨b,n,c,rfl,hl,hc,hm,hi.bytes hz,fun x hx'=>Nat.le_trans hB (hx x hx').1,hb⟩
theorem IV (ys:List Int)(D:Nat)(h:ys.length+bU ys.length=D) :lay (ao D) 0 (ys.take D) =iA ys:=by
 have e:ys.take D=ys:=List.take_of_length_le (by omega);rw[e];unfold lay iA ao;rw[List.take_zero,List.nil_append,List.drop_replicate]
 congr 2
 omega
theorem wrap_i64 {n:Int}(h0:0<=n)(h1:n<=1000000000000) :IntKind.i64.wrap n=n:=by
 have hb:IntKind.i64.bits=64:=rfl;have hs:IntKind.i64.signed=true:=rfl;unfold IntKind.wrap;simp only[hb,hs,Bool.true_and];have e: (2:Int) ^64=18446744073709551616:=by decide
 have e': (2:Int) ^ (64- 1) =9223372036854775808:=by decide
 rw[e,e',Int.emod_eq_of_lt h0 (by omega),if_neg (by simp;omega)]
theorem Pz {D:Nat}(h:D<=1000000) :IntKind.i64.wrap (D:Int) =D:=by
 exact wrap_i64 (by omega) (by omega)
set_option maxRecDepth 100000 in
theorem yU (a:Option Addr)(n c:Nat)(L:List Rec)(w:World)(V:iX w)(hv:∀r∈L,r.2.size<=maxLen)(hn:L.length=n)(hc:n<=c)(hm:c<=maxLen)(hR:bS w a L)(hE:kK [] L=0)(h1:1<= (dR L).length)(h2: (dR L).length<=262144) :
 Calls Tryz.prog 101 #[.slice a n c] w fun e w'=>∃v,e= .returned (.tuple #[v,.int .i64 0])/\w'.ownsRow w.heap.size 5 1 v (512+ (iA (dR L)).length) ((jc (hX (dR L).length) ++iA (dR L)).map (.int .u8))/\Below w.heap.size w w':=by
 have FM:=yz a n c L w V hv hn hc hm hR;have ef:Qm L=dR L:=by unfold Qm;rw[if_pos hE]
 rw[ef,hE]at FM;have HFM:=ad FM;obtain⟨F,hF⟩:=named (dR L);have FB:Hid (Bytes F) :=by show Bytes _;rw[hF.out];exact Ho L
 rw[<- hF.out]at h1 h2 HFM;rw[<- hF.out];obtain⟨m,hmm⟩:=named F.length;rw[<- hmm.out]at h1 h2;obtain⟨k,hk⟩:=named (aZ m);have ek:aZ (m:Int).toNat=k:=hk.out.symm;obtain⟨D,hD⟩:=named (512*k);have hPD:m+bU m=D:=by rw[hD.out,hk.out];exact dZ m
 have hpd:bU m<512:=by unfold bU;omega
 have hD0:0<D:=by omega
 have hDm:D<=300000:=by omega
 have hkD: (k:Int) *512= (D:Int) :=by have:=hD.out;omega
 have hwD:IntKind.i64.wrap (D:Int) =D:=Pz (by omega);have PRL:Hid ((iA F).length=D) :=by show _=_;unfold iA;rw[List.length_append,al,<- hmm.out];exact hPD
 have LP:Hid (lay (ao D) 0 (F.take D) =iA F) :=IV F D (by rw[<- hmm.out];exact hPD);have EA:=ad fun(w':World) =>Aj (T:=120) (nm:=ir) (pf:=emp) (lk:=emp) (md:=0) (sz:= (m:Int)) w' (by decide) (by decide) (by decide) (rm (by omega));have HB:Hid (Ust.dL 120 ir emp emp 0 (m:Int) =jc (hX m)) :=rfl;have HBL:Hid ((jc (hX m)).length=512) := (fZ (rm (n:=m) (by omega))).2.2.1;obtain⟨X,hX'⟩:=named (jc (hX m));rw[<- hmm.out,<- hX'.out,PRL.out];have hm8: (m:Int)<=262144:=by omega
 have HD9:Hid (D<=300000) :=hDm;have HD0:Hid (0<D) :=hD0;have hk8: (k:Int)<=1000:=by omega
 have hDi: (D:Int)<=300000:=by omega
 obtain⟨i0,HI⟩:=fO (P:=Tryz.prog) (e:=5) (by kernel_rfl);have HE8:Hid ((Tryz.prog.info? 5).map (·.size) =some 1) :=by show _=_;kernel_rfl
 clear V hv hn hc hm hR hE h1 h2 ef FM hPD hpd hD0 hDm;go_enter Tryz.func101,Tryz.ntmps101;go_wp2_with fail;refine HFM.out.mono ?_;rintro e w1 ⟨b1,m1,c1,rfl,l1,hc1,hm1,i1,bb1⟩;obtain rfl:m1=m:=by rw[<- l1,hmm.out]
 have I1:=ad i1;have B1:=ad bb1;have C1:=ad hc1;clear l1 hc1 hm1 i1 bb1;go_wp2_with fail;refine(vk (m1:Int) w1).mono ?_;rintro e w2 ⟨rfl,b2⟩;have I2:=ad (I1.out.below b2);have B2:=ad (ar B1.out b2);clear b2;go_wp2_with fail;refine(EA.out w2).mono ?_;rintro e w3 ⟨g3,rfl,a3,x3,y3,bb3⟩;rw[HB.out,<- hX'.out]at a3;have A3:=ad a3;have X3:=ad (Nat.le_trans B2.out.size x3);have Y3:=ad y3;have I3:=ad (I2.out.below bb3);have B3:=ad (ar B2.out bb3);clear a3 x3 y3 bb3;go_wp2_with fail;refine(fC (m1:Int) (by omega) w3).mono ?_;rintro e w4 ⟨rfl,rfl⟩;rw[ek];clear ek;go_wp2_with (first| (refine dE rfl _ _ 25 5 rfl Tryz.underlying25 i0 HI D rfl rfl (by have:=HD9.out;omega) ?_;intro w5 h5 b5;have H5:=ad h5;have B5:=ad (ar B3.out b5);have I5:=ad (I3.out.below b5);have A5:=ad (A3.out.below b5 Y3.out);have Z5:=ad b5;clear h5 b5) | (refine jG rfl _ _ 25 25 rfl 5 Tryz.underlying25 HE8.out w3.heap.size 0 D D rfl b1 m1 c1 rfl F I5.out hmm.out.symm 5 (ao D) H5.out (by rw[al];omega) ?_;rw[LP.out];intro w6 h6 t6;have H6:=ad h6;have A6:Hid (aT w6 g3 0 X) :=A3.out.below (Z5.out.trans (t6.below ah)) Y3.out;have B6:=ad (B5.out.trans (t6.below B3.out.size));clear h6 t6) | (at_builtin;refine lY rfl _ _ 25 rfl 5 i0 Tryz.underlying25 HI g3 512 X rfl A6.out (by rw[hX'.out];exact HBL.out) (some ⟨w3.heap.size,0,none⟩) D D (iA F) rfl H6.out.bytes PRL.out HD0.out (by have:=HD9.out;omega) ?_;intro v7 w7 h7 b7;have H7:=ad h7;have B7:=ad (ar B6.out b7);clear h7 b7));go_ret2;exact⟨_,rfl,eg H7.out B6.out.size,B7.out⟩
end Go.Proofs.YtcjagakckffkiaaGreatDoor.dO
namespace Go.Proofs.YtcjagakckffkiaaGreatDoor.dO
open Go.RowKit Go.Proofs.YtcjagakckffkiaaGreatDoor.Fit bL Pnm
theorem Jm {e:dY}(h:dn e≠0) :eW e= [] :=by unfold eW;rw[if_pos h]
theorem Ji {e:dY}(h:dn e=0)(h0: (gI e).length=0) :eW e=jc (gr e) :=by
 unfold eW xq;rw[if_neg (by simpa using h),if_pos h0,List.nil_append]
theorem Ey {e:dY}(h:dn e=0)(h0: (gI e).length≠0) :eW e= (jc (hX (dR (gI e)).length) ++iA (dR (gI e))) ++jc (gr e) :=by
 unfold eW xq;rw[if_neg (by simpa using h),if_neg h0]
set_option maxRecDepth 100000 in
theorem Fx (k:Int)(p:ByteArray)(m:Int)(t:ByteArray)(s:Int)(w:World)(V:dF w)(hp:p.size<=maxLen)(ht:t.size<=maxLen)(h:dn ⟨k,p,m,t,s⟩≠0) :
 Calls Tryz.prog 57 #[.agg (aR k p m t s).toArray] w (kg [] (dn ⟨k,p,m,t,s⟩) w) :=by
 have HO:=ad mJ;have HZ:=ad BU;have PL:=ad fun w' (hb:Below w.heap.size w w') =>oW ⟨k,p,m,t,s⟩ w' (V.go hb) hp ht;obtain⟨e1,e2⟩:=tA h;unfold CG at PL;rw[e1,e2]at PL;obtain⟨E,hE⟩:=named (dn ⟨k,p,m,t,s⟩);rw[<- hE.out]at PL h;rw[<- hE.out];have n0: (E !=0) =true:=by simp[h]
 clear V hp ht h e1 e2;go_enter Tryz.func57,Tryz.ntmps57;go_wp2_with (first| (refine aj rfl 68 _ rfl (aR k p m t s) rfl ?_;intro w1 g1 b1;have E1:=ad g1;have B1:=ad b1;have c0:=E1.out.get 0 rfl;have c1:=E1.out.get 1 rfl;have c2:=E1.out.get 2 rfl;have c3:=E1.out.get 3 rfl;have c4:=E1.out.get 4 rfl;clear g1 b1));refine(PL.out w1 B1.out).mono ?_;rintro e w2 ⟨b,n,c,rfl,hn,hc,hm,hR,b2⟩;have B2:=ad (ar B1.out b2);clear b2 hn hc hm hR c0 c1 c2 c3 c4;go_wp2_with (first| (refine ag rfl 130 rfl Ust.cr HZ.out ?_;intro w4 g4 b4;have R4:=ad g4;have A4:=ad b4;clear g4 b4) | (refine ae rfl 130 _ _ rfl w2.heap.size rfl (Ust.cr) Ust.cr rfl 130 R4.out HO.out.2 rfl (aY _ _ _ _ _ _) ?_;intro w5 g5 t5;have B5:=ad (ar B2.out (A4.out.trans (t5.below ah)));clear g5 t5));go_ret2;exact .nil B5.out
section
variable {k:Int} {p:ByteArray} {m:Int} {t:ByteArray} {s:Int}
set_option maxRecDepth 100000 in
theorem Jc (w:World)(V:dF w)(hp:p.size<=maxLen)(ht:t.size<=maxLen)(h:dn ⟨k,p,m,t,s⟩=0) :
 Calls Tryz.prog 57 #[.agg (aR k p m t s).toArray] w (kg (eW ⟨k,p,m,t,s⟩) 0 w) :=by
 have HO:=ad mJ;have HZ:=ad BU;have PL:=ad fun w' (hb:Below w.heap.size w w') =>oW ⟨k,p,m,t,s⟩ w' (V.go hb) hp ht;obtain⟨e1,e2⟩:=jq h;unfold CG at PL;rw[e1,e2,h]at PL;have hok:=dB.1 h;obtain⟨z1,z2,z3,z4⟩:=Mc hok;have EO:=ad (Ji h);have EM:=ad (Ey h);have HG:=ad (qh hok);have HVL:=ad (IY hok);have FL:=ad (lW h);have FP:=ad (zx (l:=gI ⟨k,p,m,t,s⟩));have FBY:=ad (xC (gI ⟨k,p,m,t,s⟩));have ENB:=ad (Gw ⟨k,p,m,t,s⟩);have HDL:Hid ((jc (gr ⟨k,p,m,t,s⟩)).length=512) := (fZ (tM h)).2.2.1;have HDX:Hid (∀n:Nat,n<=262144-> (jc (hX n)).length=512) :=fun n hn=> (fZ (rm (n:=n) (by omega))).2.2.1;have EA:=ad fun(w':World) =>Aj w' (by unfold maxLen;omega) (by unfold maxLen;omega) (by unfold maxLen;omega) z4;have HHB:Hid (Ust.dL (gr ⟨k,p,m,t,s⟩).T (gr ⟨k,p,m,t,s⟩).nm (gr ⟨k,p,m,t,s⟩).pf (gr ⟨k,p,m,t,s⟩).lk (gr ⟨k,p,m,t,s⟩).md (gr ⟨k,p,m,t,s⟩).sz=jc (gr ⟨k,p,m,t,s⟩)) :=rfl;obtain⟨Y,hY⟩:=named (jc (gr ⟨k,p,m,t,s⟩));rw[<- hY.out]at HHB HDL EO EM;rw[HHB.out]at EA;obtain⟨L,hL⟩:=named (gI ⟨k,p,m,t,s⟩);rw[<- hL.out]at PL EO EM HG HVL FL FP FBY;obtain⟨R,hR⟩:=named (eW ⟨k,p,m,t,s⟩);rw[<- hR.out]at EO EM ENB;rw[<- hR.out];obtain⟨T,hT⟩:=named (gr ⟨k,p,m,t,s⟩).T;obtain⟨nm,hnm⟩:=named (gr ⟨k,p,m,t,s⟩).nm;obtain⟨pf,hpf⟩:=named (gr ⟨k,p,m,t,s⟩).pf;obtain⟨lk,hlk⟩:=named (gr ⟨k,p,m,t,s⟩).lk;obtain⟨md,hmd⟩:=named (gr ⟨k,p,m,t,s⟩).md;obtain⟨sz,hsz⟩:=named (gr ⟨k,p,m,t,s⟩).sz;rw[<- hT.out,<- hnm.out,<- hpf.out,<- hlk.out,<- hmd.out,<- hsz.out]at PL EA;have HV:=ad V;obtain⟨i0,HI⟩:=fO (P:=Tryz.prog) (e:=5) (by kernel_rfl);clear V hp ht h e1 e2 hok z1 z2 z3 z4 HHB;go_enter Tryz.func57,Tryz.ntmps57;go_wp2_with (first| (refine aj rfl 68 _ rfl (aR k p m t s) rfl ?_;intro w1 g1 b1;have E1:=ad g1;have B1:=ad b1;have c0:=E1.out.get 0 rfl;have c1:=E1.out.get 1 rfl;have c2:=E1.out.get 2 rfl;have c3:=E1.out.get 3 rfl;have c4:=E1.out.get 4 rfl;clear g1 b1));refine(PL.out w1 B1.out).mono ?_;rintro e w2 ⟨b,n,c,rfl,hn,hc,hm,hR2,b2⟩;have B2:=ad (ar B1.out b2);have HN:=ad hn;have HC:=ad hc;have HM:=ad hm;have I2:=ad hR2;clear b2 hn hc hm hR2 c0 c1 c2 c3 c4;go_wp2_with (first| (refine ag rfl 130 rfl Ust.cr HZ.out ?_;intro w4 g4 b4;have R4:=ad g4;have A4:=ad b4;clear g4 b4) | (refine ae rfl 130 _ _ rfl w2.heap.size rfl (Ust.bA T nm pf lk md sz) Ust.cr rfl 130 R4.out HO.out.2 rfl (aY _ _ _ _ _ _) ?_;intro w5 g5 t5;have X5:=ad g5;have A5:=ad (A4.out.trans (t5.below ah));have B5:=ad (ar B2.out A5.out);have I5:=ad (I2.out.below A5.out);have d0:=X5.out.get 0 rfl;have d1:=X5.out.get 1 rfl;have d2:=X5.out.get 2 rfl;have d3:=X5.out.get 3 rfl;have d4:=X5.out.get 4 rfl;have d5:=X5.out.get 5 rfl;clear g5 t5));refine(EA.out w5).mono ?_;rintro e w6 ⟨g6,rfl,a6,x6,y6,b6⟩;have A6:=ad a6;have X6:=ad (Nat.le_trans B5.out.size x6);have Y6:=ad y6;have B6:=ad (ar B5.out b6);have I6:=ad (I5.out.below b6);clear a6 x6 y6 b6 d0 d1 d2 d3 d4 d5;by_cases hn0:n=0
 ·subst hn0;have HEO:=ad (EO.out HN.out);go_wp2_with fail;go_ret2;exact⟨some ⟨g6,0,none⟩,512,512,rfl,by rw[HEO.out];exact HDL.out,ah,by unfold maxLen;decide,by rw[HEO.out];exact .dS A6.out Y6.out,fun x hx=>by cases hx;exact X6.out,B6.out⟩
 ·have hnn:L.length≠0:=by rw[HN.out];exact hn0
  have HEM:=ad (EM.out hnn);have HP1:=ad (FP.out hnn);have n1: ((n:Int) ==0) =false:=by simp[hn0]
  clear hnn hn0;go_wp2_with fail;refine(yU b n c L w6 (HV.out.go B6.out).v (fun r hr=>Nat.le_trans (HVL.out r hr) (by unfold maxLen;decide)) HN.out HC.out HM.out I6.out HG.out HP1.out (by have:=FL.out;omega)).mono ?_;rintro e w7 ⟨v7,rfl,o7,b7⟩;have O7:=ad o7;have B7:=ad (ar B6.out b7);have A7:Hid (aT w7 g6 0 Y) :=A6.out.below b7 Y6.out;have Y7:=ad (Nat.lt_of_lt_of_le Y6.out b7.size);obtain⟨q7,hq7⟩:=named (512+ (iA (dR L)).length);rw[<- hq7.out]at O7
  have Q7:Hid (q7<=300000) :=by
   show _<=_;rw[hq7.out];have:=FL.out;unfold iA;rw[List.length_append,al];have:bU (dR L).length<512:=by unfold bU;omega
   omega
  have HSZ:Hid (w6.heap.size<=w7.heap.size) :=b7.size;clear o7 b7;go_wp2_with (first| (at_builtin;refine iO rfl _ _ 25 rfl w6.heap.size 5 i0 Tryz.underlying25 HI v7 q7 _ rfl O7.out g6 0 512 512 Y rfl A7.out HDL.out (by have:=Q7.out;omega) HSZ.out ?_;intro v8 w8 h8 b8;have H8:=ad h8;have B8:=ad (B7.out.trans (b8.mono B6.out.size));clear h8 b8));go_ret2;exact .own (by rw[HEM.out];exact H8.out) ENB.out B6.out.size B8.out
end
theorem wQ (e:dY)(w:World)(V:dF w)(hp:e.p.size<=maxLen)(ht:e.t.size<=maxLen) :
 Calls Tryz.prog 57 #[.agg (aR e.k e.p e.m e.t e.s).toArray] w (kg (eW e) (dn e) w) :=by
 obtain⟨k,p,m,t,s⟩:=e;by_cases h:dn ⟨k,p,m,t,s⟩=0
 ·rw[h];exact Jc w V hp ht h
 ·rw[Jm h];exact Fx k p m t s w V hp ht h
end Go.Proofs.YtcjagakckffkiaaGreatDoor.dO
namespace Go.Proofs.YtcjagakckffkiaaGreatDoor.Flt
open Go.RowKit Go.Proofs.YtcjagakckffkiaaGreatDoor.Fit Go.Proofs.YtcjagakckffkiaaGreatDoor.dO Pnm Tre
def Rc:Mb:=⟨⟨0,emp,0,emp,0⟩,[]⟩
def mz (l:List Mb)(i:Nat) :Mb:= (l[i]?).getD Rc
theorem tX {l:List Mb}{i:Nat}{x:Mb}(h:l[i]? =some x) :mz l i=x:=by unfold mz;rw[h];rfl
def pX (L:List Mb) :Int:= ((L.find? fun x=>decide (dn x.e≠0)).map fun x=>dn x.e).getD 0
def JM (x:Mb) :Nat:= (eW x.e).length+512*aZ x.e.s.toNat
def pA (L:List Mb)(j:Nat) :Nat:= ((L.take j).map JM).sum
def Pj (L:List Mb) :Int:=if pX L=0 then 1024+ (pA L L.length:Int)else 0
theorem xw {L:List Mb}{j:Nat}{x:Mb}(h:L[j]? =some x) :pA L (j+1) =pA L j+JM x:=by
 unfold pA;rw[List.take_add_one,h];simp
theorem so {L:List Mb} :pX L=0↔∀x∈L,dn x.e=0:=by
 unfold pX;constructor
 ·intro h x hx
  cases e:L.find? fun x=>decide (dn x.e≠0)with
  |none=>simpa using (List.find?_eq_none.mp e) x hx
  |some y=>
   rw[e]at h;have:=List.find?_some e;exact absurd h (of_decide_eq_true this)
 ·intro h;rw[List.find?_eq_none.mpr fun x hx=>by simpa using h x hx];rfl
theorem Nk {L:List Mb}{j:Nat}{x:Mb}(h:L[j]? =some x)(hp:∀i,i<j->dn (mz L i).e=0)(hx:dn x.e≠0) :pX L=dn x.e:=by
 obtain⟨hj,he⟩:=List.getElem?_eq_some_iff.mp h
 have:L.find? (fun x=>decide (dn x.e≠0)) =some x:=by
  refine List.find?_eq_some_iff_getElem.mpr ⟨decide_eq_true hx,j,hj,he,fun i hi=>?_⟩;have:=hp i hi;rw[tX (List.getElem?_eq_getElem (show i<L.length by omega))]at this
  simpa using this
 unfold pX;rw[this];rfl
theorem Ap {L:List Mb}{n:Nat}(hn:L.length=n)(hp:∀i,i<n->dn (mz L i).e=0) :pX L=0:=so.mpr fun x hx=>by
 obtain⟨i,hi,rfl⟩:=List.getElem_of_mem hx;have:=hp i (by omega)
 rwa [tX (List.getElem?_eq_getElem hi)]at this
theorem FI {x:Mb}(h:dn x.e=0) :JM x<=1099512000000/\JM x % 512=0/\0<=x.e.s/\x.e.s<=1099511627776:=by
 have hok:=dB.mp h;obtain⟨s0,s1,_⟩:=gV hok.sz;obtain⟨l1,l2⟩:=kL h;have hf:=lW h
 have e1: (eW x.e).length<=300000/\ (eW x.e).length % 512=0:=by
  rw[l1,l2]
  split
  ·omega
  ·unfold aZ;omega
 unfold JM;have:=uE x.e.s.toNat;refine⟨by omega,by omega,s0,s1⟩
theorem Ep {L:List Mb} :∀{j:Nat},j<=L.length-> (∀i,i<j->dn (mz L i).e=0)->pA L j<=1099512000000*j/\pA L j % 512=0
 |0,_,_=>⟨Nat.zero_le _,rfl⟩
 |j+1,hj,hp=>by
  have e:L[j]? =some L[j] :=List.getElem?_eq_getElem (by omega);obtain⟨i1,i2⟩:=Ep (j:=j) (by omega) fun i hi=>hp i (by omega);have h:=hp j (by omega);rw[tX e]at h;obtain⟨h1,h2,_⟩:=FI h;rw[xw e];omega
end Go.Proofs.YtcjagakckffkiaaGreatDoor.Flt
namespace Go.Proofs.YtcjagakckffkiaaGreatDoor.Arc
open Go.Lib Go.RowKit Go.Proofs.YtcjagakckffkiaaGreatDoor.Fit bL Pnm Tre Flt dO Reb
theorem No {x:Mb}(h:jS x) : (kR x).length=Flt.JM x:=by
 have h1:=h.2;have h2:x.e.s.toNat=x.d.length:=by rw[<- h1];rfl
 unfold Flt.JM;rw[gO,h2,dZ]
theorem JW {A:List Mb}(h:∀x∈A,jS x) : (cq A).length=Flt.pA A A.length:=by
 unfold Flt.pA;rw[List.take_length]
 induction A with
 |nil=>rfl
 |cons x A ih=>
  rw[gP,List.length_append,List.map_cons,List.sum_cons,No (h x List.mem_cons_self),ih fun y hy=>h y (List.mem_cons_of_mem _ hy)]
theorem Kx {A:List Mb}(h:∀x∈A,jS x) : ((cy A).length:Int) =Flt.Pj A:=by
 unfold Flt.Pj;rw[if_pos (Flt.so.mpr fun x hx=> (h x hx).1)];unfold cy;rw[List.length_append,al,JW h];omega
theorem Nq {x:Mb}(h:jS x) : (kR x).length % 512=0:=by
 obtain⟨h1,h2⟩:=kL h.1;rw[gO,dZ]
 split at h2<;>omega
theorem tZ:∀{A:List Mb},(∀x∈A,jS x)-> (cq A).length % 512=0
 | [],_=>rfl
 |x::A,h=>by
  have h1:=Nq (h x List.mem_cons_self);have h2:=tZ fun y hy=>h y (List.mem_cons_of_mem x hy);rw[gP,List.length_append];omega
theorem Kn {A:List Mb}(h:∀x∈A,jS x) : (cy A).length % 512=0:=by
 have:=tZ h;unfold cy;rw[List.length_append,al];omega
end Go.Proofs.YtcjagakckffkiaaGreatDoor.Arc
